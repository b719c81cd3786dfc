"""Each name of the interface stands in its own file, each method in its own class."""

import inspect
import unittest

from anyworker import machines, services, values

FUNCTIONS = {
    values: {
        "cell": "(name)", "passed": "()", "number": "(n)", "put": "(name, value)",
        "when": "(value, steps, others=())", "answer": "(value)",
    },
    services: {"sharing": "(service, names)", "forgetting": "(service, names)"},
    machines: {
        "run": "(service, requests)", "first_unlike": "(one, other)", "machine": "(service)",
        "forgettable": "(service)",
    },
}

METHODS = {
    values.Value: [
        "__add__", "__radd__", "__sub__", "__rsub__", "__mul__", "__rmul__", "__floordiv__", "rest",
        "__and__", "__rand__", "__or__", "__ror__", "__invert__", "same", "less", "names", "at", "__eq__",
    ],
    values.Step: ["names", "__eq__"],
    services.Service: ["__init__", "own", "common", "kinds", "__getitem__", "__len__", "__or__", "__eq__"],
}

SIGNATURES = {
    values.Value.rest: "(self, n)", values.Value.same: "(self, other)", values.Value.less: "(self, other)",
    values.Value.at: "(self, held, argument)", services.Service.__init__: "(self, own, common, kinds)",
}


class Interface(unittest.TestCase):
    def test_functions(self):
        for module, told in FUNCTIONS.items():
            for name, signature in told.items():
                made = getattr(module, name)
                self.assertEqual(made.__module__, module.__name__)
                self.assertEqual(str(inspect.signature(made)), signature)

    def test_methods(self):
        for made, names in METHODS.items():
            for name in names:
                self.assertIn(name, vars(made))
        for made, signature in SIGNATURES.items():
            self.assertEqual(str(inspect.signature(made)), signature)

    def test_properties(self):
        for made, names in [(values.Value, ["names"]), (values.Step, ["names"]),
                            (services.Service, ["own", "common", "kinds"])]:
            for name in names:
                self.assertIsInstance(vars(made)[name], property)

    def test_classes_stand_in_their_files(self):
        self.assertEqual(values.Value.__module__, "anyworker.values")
        self.assertEqual(values.Step.__module__, "anyworker.values")
        self.assertEqual(services.Service.__module__, "anyworker.services")
