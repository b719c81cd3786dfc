import unittest

from anyworker.errors import InvalidName
from anyworker.values import Step, answer, cell, number, passed, put, when
from tests.names_at_edges import BAD, GOOD


class Names(unittest.TestCase):
    def test_good_and_bad_names(self):
        for name in GOOD:
            self.assertEqual(put(name, 0).names, [name])
        for name in BAD:
            with self.assertRaises(InvalidName) as caught:
                put(name=name, value=0)
            self.assertEqual(caught.exception.value, name)

    def test_ascending_and_each_once(self):
        self.assertEqual(put("b", cell("a") + cell("c") + cell("b")).names, ["a", "b", "c"])
        self.assertEqual(answer(cell("b") - cell("a")).names, ["a", "b"])
        self.assertEqual([answer(3).names, answer(passed()).names, when(1, []).names], [[], [], []])
        step = when(cell("d"), [put("z", cell("e")), answer(cell("d"))], [put("c", 1), put("z", 2)])
        self.assertEqual(step.names, ["c", "d", "e", "z"])

    def test_steps_three_deep(self):
        inner = when(cell("g"), [put("f", 1)], [answer(cell("e"))])
        step = when(1, [when(cell("d"), [inner], [put("c", cell("b"))])], [put("a", 0)])
        self.assertEqual(step.names, ["a", "b", "c", "d", "e", "f", "g"])

    def test_told_list_is_new(self):
        for step in [put("a", cell("b")), answer(cell("a") + cell("b")), when(cell("a"), [put("b", 0)])]:
            step.names.append("c")
            step.names.clear()
            self.assertEqual(step.names, ["a", "b"])
            with self.assertRaises(AttributeError):
                step.names = []


class Building(unittest.TestCase):
    def test_integers_as_values(self):
        self.assertTrue(put("a", 3) == put("a", number(3)))
        self.assertTrue(answer(-3) == answer(number(-3)))
        self.assertTrue(when(0, [answer(1)], [answer(2)]) == when(number(0), [answer(1)], [answer(2)]))

    def test_by_name(self):
        self.assertTrue(put(name="a", value=1) == put("a", 1))
        self.assertTrue(answer(value=1) == answer(1))
        self.assertTrue(when(value=1, steps=[answer(1)], others=[answer(2)]) == when(1, [answer(1)], [answer(2)]))
        for step in [put("a", 1), answer(1), when(1, [])]:
            self.assertIsInstance(step, Step)

    def test_lists_and_tuples_with_others_and_without(self):
        some, others = [put("a", 1), answer(2)], [answer(3)]
        one = when(cell("b"), some, others)
        for other in [when(cell("b"), tuple(some), others), when(cell("b"), some, tuple(others)),
                      when(cell("b"), tuple(some), tuple(others))]:
            self.assertTrue(one == other)
        self.assertTrue(when(cell("b"), some) == when(cell("b"), tuple(some), []))
        self.assertTrue(when(cell("b"), some) == when(cell("b"), some, ()))
        self.assertFalse(when(cell("b"), some) == one)

    def test_passed_lists_changed_later(self):
        some, others = [put("a", 1)], [put("b", 2)]
        step = when(1, some, others)
        some.append(put("c", 1))
        others[0] = put("d", 1)
        self.assertEqual(step.names, ["a", "b"])
        self.assertTrue(step == when(1, [put("a", 1)], [put("b", 2)]))
        self.assertEqual((len(some), len(others)), (2, 1))


class Equality(unittest.TestCase):
    def test_built_alike(self):
        makers = [
            lambda: put("a", 1), lambda: put("a", 2), lambda: put("b", 1), lambda: put("a", cell("a")),
            lambda: answer(1), lambda: answer(2), lambda: answer(cell("a")), lambda: answer(passed()),
            lambda: when(1, []), lambda: when(2, []), lambda: when(1, [answer(1)]),
            lambda: when(1, [], [answer(1)]), lambda: when(1, [answer(1)], [answer(1)]),
            lambda: when(1, [answer(1), answer(2)]), lambda: when(1, [answer(2), answer(1)]),
            lambda: when(1, [answer(1)], [answer(2)]), lambda: when(1, [when(1, [])]),
            lambda: when(1, [when(1, [when(1, [])])]), lambda: when(1, [when(1, [], [when(1, [])])]),
        ]
        for at, one in enumerate(makers):
            for place, other in enumerate(makers):
                self.assertIs(one() == other(), at == place, (at, place))
                self.assertIs(one() != other(), at != place, (at, place))

    def test_nothing_else_is_equal(self):
        for other in [1, "a", None, (), [], cell("a"), number(1), ("put", "a", 1), object()]:
            for step in [put("a", 1), answer(1), when(1, [])]:
                self.assertFalse(step == other)
                self.assertFalse(other == step)
                self.assertTrue(step != other)

    def test_six_deep(self):
        def deep(last, many):
            step = last
            for n in range(many):
                step = when(cell("a"), [step], [answer(n)])
            return step

        self.assertTrue(deep(put("b", 1), 6) == deep(put("b", 1), 6))
        self.assertFalse(deep(put("b", 1), 6) == deep(put("b", 2), 6))
        self.assertFalse(deep(put("b", 1), 6) == deep(put("b", 1), 5))
        self.assertEqual(deep(put("b", cell("c")), 6).names, ["a", "b", "c"])
