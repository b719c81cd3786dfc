import unittest

from anyworker.errors import (
    DoubleName, InvalidName, InvalidSize, UnknownKind, UnknownName, UnlikeCells, WorkError,
)
from anyworker.services import Service, forgetting, sharing
from anyworker.values import answer, cell, passed, put, when
from tests.names_at_edges import BAD, GOOD

ADD = [put("n", cell("n") + 1), answer(cell("n"))]


def tally(size=3):
    return Service([("n", size)], [], [("add", 1, ADD)])


def wide():
    return Service(
        [("a", 2), ("b", 3), ("c", 1)], [("x", 2), ("y", 4)],
        [("get", 2, [answer(cell("a"))]), ("set", 4, [put("y", passed()), put("b", cell("c"))]), ("nop", 1, [])])


class Checks(unittest.TestCase):
    def fails(self, error, value, own=(), common=(), kinds=()):
        with self.assertRaises(WorkError) as caught:
            Service(list(own), list(common), list(kinds))
        self.assertIs(type(caught.exception), error)
        self.assertEqual(caught.exception.value, value)

    def test_names(self):
        for name in GOOD:
            self.assertEqual(Service([(name, 1)], [], [(name, 1, [])]).own, [(name, 1)])
            self.assertEqual(Service([], [(name, 1)], []).common, [(name, 1)])
        for name in BAD:
            self.fails(InvalidName, name, own=[(name, 1)])
            self.fails(InvalidName, name, common=[(name, 1)])
            self.fails(InvalidName, name, kinds=[(name, 1, [])])

    def test_sizes(self):
        for size in [0, -1, -999]:
            self.fails(InvalidSize, size, own=[("a", size)])
            self.fails(InvalidSize, size, common=[("a", size)])
            self.fails(InvalidSize, size, kinds=[("a", size, [])])
        self.assertEqual(Service([("a", 999)], [("b", 1)], [("k", 999, [])]).kinds, [("k", 999)])

    def test_double_names(self):
        self.fails(DoubleName, "a", own=[("a", 1), ("b", 1), ("a", 1)])
        self.fails(DoubleName, "b", own=[("a", 1)], common=[("b", 1), ("c", 2), ("b", 3)])
        self.fails(DoubleName, "a", own=[("a", 1), ("b", 2)], common=[("c", 2), ("a", 1)])
        self.fails(DoubleName, "k", kinds=[("k", 1, []), ("j", 1, []), ("k", 2, [])])
        self.assertEqual(len(Service([("a", 1)], [("b", 1)], [("a", 1, []), ("b", 1, [])])), 2)

    def test_unknown_names(self):
        self.fails(UnknownName, "a", kinds=[("k", 1, [answer(cell("a"))])])
        self.fails(UnknownName, "b", own=[("a", 1)], common=[("d", 2)],
                   kinds=[("k", 1, [put("c", cell("d")), when(cell("a"), [put("b", 0)])])])
        self.fails(UnknownName, "a", own=[("b", 1)], kinds=[("k", 1, [put("z", 1), answer(cell("b") - cell("a"))])])
        self.fails(UnknownName, "k", own=[("a", 1)], kinds=[("k", 1, [put("k", 1)])])
        self.fails(UnknownName, "z", own=[("a", 1)], kinds=[("j", 1, [put("a", 1)]), ("k", 1, [put("z", 1)])])

    def test_first_error_in_order(self):
        self.fails(InvalidName, "A", own=[("A", 0)])
        self.fails(InvalidSize, 0, own=[("a", 1), ("a", 0)])
        self.fails(InvalidSize, 0, own=[("a", 0), ("B", 1)])
        self.fails(InvalidSize, -1, own=[("a", 1)], common=[("a", -1), ("B", 0)])
        self.fails(DoubleName, "a", own=[("a", 1), ("a", 1), ("B", 0)], common=[("C", 1)])
        self.fails(DoubleName, "a", own=[("a", 1), ("a", 1)], common=[("C", 1)])
        self.fails(DoubleName, "a", own=[("a", 1)], common=[("a", 1), ("B", 0)], kinds=[("K", 0, [])])
        self.fails(InvalidSize, 0, common=[("a", 0)], kinds=[("K", 0, [])])
        self.fails(InvalidName, "K", kinds=[("K", 0, [answer(cell("a"))])])
        self.fails(InvalidSize, 0, kinds=[("k", 1, []), ("k", 0, [answer(cell("a"))])])
        self.fails(DoubleName, "k", kinds=[("k", 1, []), ("k", 1, [answer(cell("a"))])])
        self.fails(UnknownName, "a", kinds=[("k", 1, [answer(cell("a"))]), ("K", 0, [])])
        self.fails(UnknownName, "a", kinds=[("k", 1, [answer(cell("a"))]), ("k", 1, [])])


class Asking(unittest.TestCase):
    def test_parts(self):
        service = wide()
        self.assertEqual(service.own, [("a", 2), ("b", 3), ("c", 1)])
        self.assertEqual(service.common, [("x", 2), ("y", 4)])
        self.assertEqual(service.kinds, [("get", 2), ("set", 4), ("nop", 1)])
        self.assertEqual(len(service), 3)
        self.assertTrue(service["get"] == [answer(cell("a"))])
        self.assertTrue(service["set"] == [put("y", passed()), put("b", cell("c"))])
        self.assertEqual(service["nop"], [])
        empty = Service(own=[], common=[], kinds=[])
        self.assertEqual([empty.own, empty.common, empty.kinds, len(empty)], [[], [], [], 0])

    def test_unknown_kinds(self):
        for name in ["a", "x", "gets", "", "GET"]:
            with self.assertRaises(UnknownKind) as caught:
                wide()[name]
            self.assertEqual(caught.exception.value, name)
        with self.assertRaises(UnknownKind):
            Service([], [], [])["k"]

    def test_told_lists_are_new(self):
        service = wide()
        for told in [service.own, service.common, service.kinds, service["get"]]:
            told.append(("z", 9))
            told[0] = None
        self.assertEqual(service.own, [("a", 2), ("b", 3), ("c", 1)])
        self.assertTrue(service == wide())
        self.assertIsNot(service["nop"], service["nop"])

    def test_passed_lists_changed_later(self):
        own, common, steps = [("n", 3)], [("c", 2)], list(ADD)
        kinds = [("add", 1, steps)]
        service = Service(own, common, kinds)
        self.assertEqual((own, common, len(kinds), len(steps)), ([("n", 3)], [("c", 2)], 1, 2))
        steps.append(put("zzz", 1))
        own.append(("m", 0))
        common[0] = ("c", 5)
        kinds.clear()
        self.assertTrue(service == Service([("n", 3)], [("c", 2)], [("add", 1, ADD)]))

    def test_never_changes(self):
        for name in ["own", "common", "kinds"]:
            with self.assertRaises(AttributeError):
                setattr(wide(), name, [])
        with self.assertRaises(TypeError):
            wide()["get"] = []


class Equality(unittest.TestCase):
    def test_equal(self):
        self.assertTrue(wide() == wide())
        self.assertFalse(wide() != wide())
        self.assertTrue(Service([], [], []) == Service([], [], []))
        self.assertTrue(Service([("n", 3)], [], [("add", 1, tuple(ADD))]) == tally())

    def test_unequal(self):
        base = ([("a", 2), ("b", 2)], [("x", 2), ("y", 2)], [("k", 2, [answer(1)]), ("j", 1, [])])
        others = [
            ([("b", 2), ("a", 2)], base[1], base[2]), ([("a", 2), ("b", 3)], base[1], base[2]),
            ([("a", 2)], base[1], base[2]), (base[0], base[1][::-1], base[2]), (base[0], base[1][:1], base[2]),
            (base[0] + [("x", 2)], [("y", 2)], base[2]), (base[0], base[1], base[2][::-1]),
            (base[0], base[1], base[2][:1]), (base[0], base[1], [("k", 1, [answer(1)]), ("j", 1, [])]),
            (base[0], base[1], [("k", 2, [answer(2)]), ("j", 1, [])]),
            (base[0], base[1], [("k", 2, []), ("j", 1, [answer(1)])]),
            (base[0], base[1], [("i", 2, [answer(1)]), ("j", 1, [])]),
        ]
        for other in others:
            self.assertFalse(Service(*base) == Service(*other), other)
            self.assertTrue(Service(*base) != Service(*other))

    def test_nothing_else_is_equal(self):
        for other in [None, 0, 3, "a", [], ([], [], []), cell("a"), answer(1), object()]:
            for service in [wide(), Service([], [], [])]:
                self.assertFalse(service == other)
                self.assertFalse(other == service)
                self.assertTrue(service != other)


class Stroke(unittest.TestCase):
    def test_cells_in_common(self):
        one = Service([("a", 2), ("b", 3)], [("x", 4), ("y", 5)], [("k", 1, [put("a", cell("x"))]), ("j", 2, [])])
        other = Service([("c", 6), ("b", 3)], [("y", 5), ("z", 2), ("x", 4)], [("i", 3, [answer(cell("z"))])])
        both = one | other
        self.assertEqual(both.own, [("a", 2), ("b", 3), ("c", 6)])
        self.assertEqual(both.common, [("x", 4), ("y", 5), ("z", 2)])
        self.assertEqual(both.kinds, [("k", 1), ("j", 2), ("i", 3)])
        self.assertTrue(both["k"] == one["k"] and both["j"] == [] and both["i"] == other["i"])
        around = other | one
        self.assertEqual(around.own, [("c", 6), ("b", 3), ("a", 2)])
        self.assertEqual(around.common, [("y", 5), ("z", 2), ("x", 4)])
        self.assertEqual(around.kinds, [("i", 3), ("k", 1), ("j", 2)])
        self.assertEqual((one.kinds, other.kinds), ([("k", 1), ("j", 2)], [("i", 3)]))

    def test_empty_ones(self):
        empty = Service([], [], [])
        self.assertTrue(wide() | empty == wide())
        self.assertTrue(empty | wide() == wide())
        bare = Service([("a", 2)], [("x", 2)], [])
        self.assertTrue(bare | bare == bare)

    def fails(self, error, value, one, other):
        left, right = Service(*one), Service(*other)
        with self.assertRaises(WorkError) as caught:
            left | right
        self.assertIs(type(caught.exception), error)
        self.assertEqual(caught.exception.value, value)
        self.assertTrue(left == Service(*one) and right == Service(*other))

    def test_unlike_cells(self):
        one = ([("a", 2), ("b", 3)], [("x", 4)], [])
        self.fails(UnlikeCells, "a", one, ([("a", 3)], [], []))
        self.fails(UnlikeCells, "x", one, ([], [("x", 5)], []))
        self.fails(UnlikeCells, "a", one, ([], [("a", 2)], []))
        self.fails(UnlikeCells, "x", one, ([("x", 4)], [], []))
        self.fails(UnlikeCells, "b", one, ([("a", 2), ("b", 2)], [("x", 9)], []))
        self.fails(UnlikeCells, "b", one, ([("b", 2), ("a", 9)], [], []))
        self.fails(UnlikeCells, "x", one, ([("c", 2), ("x", 4)], [("a", 2)], []))

    def test_double_kinds(self):
        one = ([("a", 2)], [], [("k", 1, []), ("j", 1, []), ("i", 1, [])])
        self.fails(DoubleName, "k", one, one)
        self.fails(DoubleName, "i", one, ([], [], [("h", 1, []), ("i", 2, []), ("k", 1, [])]))
        self.fails(UnlikeCells, "b", ([("b", 2)], [], [("k", 1, [])]), ([("b", 1)], [], [("k", 1, [])]))


class SharingAndForgetting(unittest.TestCase):
    def test_sharing(self):
        service = wide()
        for names in [["c", "a"], ["a", "c"]]:
            shared = sharing(service, names)
            self.assertEqual(shared.own, [("b", 3)])
            self.assertEqual(shared.common, [("x", 2), ("y", 4), ("a", 2), ("c", 1)])
            self.assertEqual(shared.kinds, service.kinds)
            self.assertTrue(all(shared[name] == service[name] for name in ["get", "set", "nop"]))
        self.assertEqual(sharing(service, ["b"]).own, [("a", 2), ("c", 1)])
        everything = sharing(service=service, names=["c", "b", "a"])
        self.assertEqual(everything.own, [])
        self.assertEqual(everything.common, [("x", 2), ("y", 4), ("a", 2), ("b", 3), ("c", 1)])
        self.assertTrue(sharing(service, []) == service == wide())

    def test_forgetting(self):
        service = wide()
        zeros = [put("a", 0), put("c", 0)]
        for names in [["c", "a"], ["a", "c"]]:
            kept = list(names)
            forgot = forgetting(service, names)
            self.assertEqual(names, kept)
            self.assertEqual((forgot.own, forgot.common, forgot.kinds), (service.own, service.common, service.kinds))
            self.assertTrue(all(forgot[name] == zeros + service[name] for name in ["get", "set", "nop"]))
        self.assertTrue(forgetting(service, ["b"])["nop"] == [put("b", 0)])
        everything = forgetting(service=service, names=["b", "c", "a"])
        self.assertTrue(everything["nop"] == [put("a", 0), put("b", 0), put("c", 0)])
        self.assertTrue(forgetting(service, []) == service == wide())
        twice = forgetting(forgetting(service, ["a"]), ["b"])
        self.assertTrue(twice["nop"] == [put("b", 0), put("a", 0)])

    def test_unknown_names(self):
        for change in [sharing, forgetting]:
            for names, wrong in [(["z"], "z"), (["x"], "x"), (["a", "y"], "y"), (["a", "z", "x"], "z"),
                                 (["x", "z", "a"], "x"), (["get"], "get"), ([""], ""), (["A"], "A")]:
                kept, service = list(names), wide()
                with self.assertRaises(UnknownName) as caught:
                    change(service, names)
                self.assertEqual(caught.exception.value, wrong)
                self.assertTrue(names == kept and service == wide())
            with self.assertRaises(UnknownName):
                change(Service([], [("x", 1)], []), ["x"])


class Bounds(unittest.TestCase):
    def test_many_cells_and_kinds(self):
        own = [(name, 999) for name in "abcd"]
        common = [(name, 6) for name in "efghijklmn"]
        deep = when(cell("a"), [when(cell("b"), [when(cell("c"), [put("d", cell("n"))])])])
        steps = [deep] * 3
        kinds = [(name, 999, steps) for name in ["one", "two", "three", "four", "five"]]
        service = Service(own, common, kinds)
        self.assertEqual((service.own, service.common, len(service)), (own, common, 5))
        self.assertTrue(service == Service(own, common, kinds))
        self.assertEqual(len(sharing(service, ["d", "a"]).common), 12)
        self.assertEqual(len(forgetting(service, ["d", "a"])["five"]), 5)
