"""Each name of the interface stands in its own file, each method in its own class."""

import inspect
import unittest

from anyworker import fleets, machines, readings, services, texts, values, workers

FUNCTIONS = {
    values: {
        "cell": "(name)", "passed": "()", "number": "(n)", "put": "(name, value)",
        "when": "(value, steps, others=())", "answer": "(value)",
    },
    services: {"sharing": "(service, names)", "forgetting": "(service, names)"},
    machines: {
        "run": "(service, requests)", "first_unlike": "(one, other)", "machine": "(service)",
        "forgettable": "(service)",
    },
    workers: {
        "serve": "(service, row)", "holds": "(service, row)", "parting": "(service)", "closed": "(service)",
        "judge": "(service, table)", "fewest_missed": "(service)", "bound_parting": "(service, kinds)",
        "mixed_parting": "(service, edition)", "least_sharings": "(service)", "breaking": "(service)",
        "least_bindings": "(service)",
    },
    texts: {"show_value": "(value)", "show_steps": "(steps)", "show_service": "(service)"},
    readings: {"read_value": "(text)", "read_steps": "(text)", "read_service": "(text)"},
}

METHODS = {
    values.Value: [
        "__add__", "__radd__", "__sub__", "__rsub__", "__mul__", "__rmul__", "__floordiv__", "rest",
        "__and__", "__rand__", "__or__", "__ror__", "__invert__", "same", "less", "names", "at", "__eq__",
    ],
    values.Step: ["names", "__eq__"],
    services.Service: ["__init__", "own", "common", "kinds", "__getitem__", "__len__", "__or__", "__eq__"],
    fleets.Fleet: [
        "__init__", "__call__", "take", "hand", "serve_all", "__getitem__", "__setitem__", "end", "store", "one",
        "is_true", "undo", "row", "__len__", "__eq__",
    ],
    fleets.BoundFleet: ["__init__", "__call__", "bound"],
}

SIGNATURES = {
    values.Value.rest: "(self, n)", values.Value.same: "(self, other)", values.Value.less: "(self, other)",
    values.Value.at: "(self, held, argument)", services.Service.__init__: "(self, own, common, kinds)",
    fleets.Fleet.__init__: "(self, service)", fleets.Fleet.__call__: "(self, kind, argument=0, worker=None)",
    fleets.Fleet.take: "(self, worker)", fleets.Fleet.serve_all: "(self, row)", fleets.Fleet.end: "(self, worker)",
    fleets.Fleet.undo: "(self)", fleets.Fleet.row: "(self)", fleets.BoundFleet.__init__: "(self, service, kinds)",
    fleets.BoundFleet.__call__: "(self, kind, argument=0, worker=None)",
}


class Interface(unittest.TestCase):
    def test_functions(self):
        for module, told in FUNCTIONS.items():
            for name, signature in told.items():
                made = getattr(module, name)
                self.assertEqual(made.__module__, module.__name__)
                self.assertEqual(str(inspect.signature(made)), signature)

    def test_methods(self):
        for made, names in METHODS.items():
            for name in names:
                self.assertIn(name, vars(made))
        for made, signature in SIGNATURES.items():
            self.assertEqual(str(inspect.signature(made)), signature)

    def test_properties(self):
        for made, names in [(values.Value, ["names"]), (values.Step, ["names"]),
                            (services.Service, ["own", "common", "kinds"]),
                            (fleets.Fleet, ["hand", "store", "one", "is_true"]), (fleets.BoundFleet, ["bound"])]:
            for name in names:
                self.assertIsInstance(vars(made)[name], property)

    def test_classes_stand_in_their_files(self):
        self.assertEqual(values.Value.__module__, "anyworker.values")
        self.assertEqual(values.Step.__module__, "anyworker.values")
        self.assertEqual(services.Service.__module__, "anyworker.services")
        self.assertEqual(fleets.Fleet.__module__, "anyworker.fleets")
        self.assertEqual(fleets.BoundFleet.__module__, "anyworker.fleets")
        self.assertEqual(fleets.BoundFleet.__bases__, (fleets.Fleet,))
