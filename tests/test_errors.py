import unittest

from anyworker import errors
from anyworker.errors import WorkError

NAMES = [
    "InvalidName", "InvalidSize", "DoubleName", "UnknownName", "UnknownKind", "InvalidArgument",
    "InvalidWorker", "InvalidDivisor", "UnlikeKinds", "UnlikeCells", "NotFree", "InvalidValues",
    "WrongWorker", "NothingToUndo", "Unreadable",
]


class Errors(unittest.TestCase):
    def classes(self):
        return [getattr(errors, name) for name in NAMES + ["WorkError"]]

    def test_stores_the_value_itself(self):
        for made in self.classes():
            for value in ["a", 3, -1, 0, None, True, [], ["a"], ([1], [2]), {"k": 1}, object(), made, made(2)]:
                self.assertIs(made(value).value, value)
                self.assertIs(made(value=value).value, value)

    def test_takes_exactly_one_argument(self):
        for made in self.classes():
            with self.assertRaises(TypeError):
                made()
            with self.assertRaises(TypeError):
                made(1, 2)
            with self.assertRaises(TypeError):
                made(other=1)

    def test_bases(self):
        self.assertEqual(WorkError.__bases__, (ValueError,))
        for name in NAMES:
            made = getattr(errors, name)
            self.assertEqual(made.__bases__, (WorkError,))
            self.assertEqual((made.__name__, made.__module__), (name, "anyworker.errors"))

    def test_is_of_no_other_class_of_the_program(self):
        for made in self.classes():
            for other in self.classes():
                self.assertEqual(isinstance(made(1), other), other is made or other is WorkError)
            self.assertIsInstance(made(1), ValueError)

    def test_can_be_raised_and_caught(self):
        for made in self.classes():
            with self.assertRaises(WorkError) as caught:
                raise made(value=["x"])
            self.assertEqual(caught.exception.value, ["x"])
