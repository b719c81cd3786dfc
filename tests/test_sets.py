"""Least sharings, what breaks a service, and least bindings."""

import unittest

from anyworker.services import Service, sharing
from anyworker.values import answer, cell, passed, put, when
from anyworker.workers import bound_parting, breaking, least_bindings, least_sharings, parting
from tests import plain, plain_rows
from tests.test_workers import greatest_shapes, memo, shapes, tally


def either():
    """Each of e, or both h and k, is enough to know whether it was set."""
    both = [when(cell("e"), [put("h", 1), put("k", 1)]), when(cell("h") & cell("k"), [put("e", 1)])]
    return Service([("h", 2), ("e", 2), ("k", 2)], [], [
        ("set", 1, [put("e", 1), put("h", 1), put("k", 1)]), ("get", 1, both + [answer(cell("e"))])])


def pairs():
    """Kinds that set one cell each, and kinds that tell them."""
    return Service([("a", 2), ("b", 2)], [], [
        ("tella", 1, [answer(cell("a"))]), ("seta", 1, [put("a", 1)]), ("nop", 1, []),
        ("tellb", 1, [answer(cell("b"))]), ("setb", 1, [put("b", 1)])])


class LeastSharings(unittest.TestCase):
    def test_small_ones(self):
        self.assertEqual(least_sharings(tally()), [["n"]])
        self.assertEqual(least_sharings(service=memo()), [[]])
        self.assertEqual(least_sharings(Service([], [("c", 2)], [("k", 1, [put("c", cell("c") + 1)])])), [[]])
        self.assertEqual(least_sharings(Service([], [], [])), [[]])
        self.assertEqual(least_sharings(pairs()), [["a", "b"]])

    def test_by_number_then_by_order(self):
        self.assertEqual(least_sharings(either()), [["e"], ["h", "k"]])
        # One of three cells is enough, whichever it is.
        three = [when(cell(name), [put("a", 1), put("b", 1), put("c", 1)]) for name in "abc"]
        service = Service([("b", 2), ("a", 2), ("c", 2)], [], [
            ("set", 1, [put("a", 1), put("b", 1), put("c", 1)]), ("get", 1, three + [answer(cell("a"))])])
        self.assertEqual(least_sharings(service), [["b"], ["a"], ["c"]])

    def test_compared_with_a_plain_search(self):
        found = []
        for shape in shapes(30, 60):
            service = plain.build(shape)
            told = least_sharings(service)
            self.assertEqual(told, plain_rows.least(plain_rows.free_sets(shape)), shape)
            self.assertTrue(service == plain.build(shape))
            found.append(tuple(len(names) for names in told))
        self.assertTrue({(0,), (1,), (2,), (3,), (1, 1)} <= set(found), set(found))

    def test_at_the_bounds(self):
        for shape in greatest_shapes(31, 2):
            self.assertEqual(least_sharings(plain.build(shape)), plain_rows.least(plain_rows.free_sets(shape)), shape)

    def test_told_lists_are_new(self):
        told = least_sharings(tally())
        told[0].append("z")
        told.append([])
        self.assertEqual(least_sharings(tally()), [["n"]])


class Breaking(unittest.TestCase):
    def test_small_ones(self):
        self.assertEqual(breaking(memo()), [([], "m"), ([], "k")])
        self.assertEqual(breaking(service=tally()), [])
        self.assertEqual(breaking(Service([], [], [])), [])

    def test_sets_with_some_cells(self):
        # Beside the copy in m and k there is an n that has to be common.
        turn = [put("n", cell("n") + 1), answer(cell("n"))]
        service = memo() | Service([("n", 2)], [], [("turn", 1, turn)])
        self.assertEqual(breaking(service), [(["n"], "m"), (["n"], "k")])
        self.assertEqual(least_sharings(service), [["n"]])
        self.assertIsNone(parting(sharing(service, ["n", "k", "m"])))

    def test_compared_with_a_plain_search(self):
        found = []
        for shape in shapes(32, 60):
            service = plain.build(shape)
            told = breaking(service)
            self.assertEqual(told, plain_rows.breaking(shape), shape)
            for names, name in told:
                self.assertIsNone(parting(sharing(service, names)))
                self.assertIsNotNone(parting(sharing(service, names + [name])))
            found += [len(names) for names, _ in told]
        self.assertTrue({0, 1, 2} <= set(found), set(found))

    def test_told_lists_are_new(self):
        told = breaking(memo())
        told[0][0].append("z")
        self.assertEqual(told, [(["z"], "m"), ([], "k")])
        self.assertEqual(breaking(memo()), [([], "m"), ([], "k")])
        self.assertTrue(all(type(pair) is tuple and type(pair[0]) is list for pair in told))


class LeastBindings(unittest.TestCase):
    def test_small_ones(self):
        self.assertEqual(least_bindings(service=memo()), [[]])
        self.assertEqual(least_bindings(tally()), [["add", "swap"]])
        self.assertEqual(least_bindings(Service([], [], [])), [[]])
        self.assertEqual(least_bindings(pairs()), [["tella", "seta", "tellb", "setb"]])

    def test_several_least_sets(self):
        # Who puts keeps a copy at once. A stale one is told only by a worker that looks after another one cleared.
        fresh = when(~cell("k").same(cell("c")), [put("m", cell("c")), put("k", cell("c"))])
        service = Service([("m", 2), ("k", 2)], [("c", 2)], [
            ("clear", 1, [put("k", 0)]), ("look", 1, [fresh, answer(cell("m"))]),
            ("put", 2, [put("c", passed()), put("m", passed())]), ("nop", 1, [])])
        self.assertEqual(least_bindings(service), [["clear", "put"], ["look", "put"]])
        self.assertIsNotNone(bound_parting(service, ["clear", "look", "nop"]))

    def test_compared_with_a_plain_search(self):
        found = []
        for shape in shapes(33, 60):
            service = plain.build(shape)
            told = least_bindings(service)
            self.assertEqual(told, plain_rows.least_bindings(shape), shape)
            for kinds in told:
                self.assertIsNone(bound_parting(service, kinds))
            self.assertTrue(service == plain.build(shape))
            found.append(tuple(len(kinds) for kinds in told))
        self.assertTrue({(0,), (1,), (2,), (3,)} <= set(found), set(found))

    def test_at_the_bounds(self):
        for shape in greatest_shapes(34, 1):
            kinds = [name for name, _, _ in shape[2]]
            good = [part for part in plain_rows.sets(kinds)
                    if plain_rows.Search(shape, bound=part, workers=2).first() is None]
            self.assertEqual(least_bindings(plain.build(shape)), plain_rows.least(good), shape)

    def test_told_lists_are_new(self):
        told = least_bindings(tally())
        told[0].append("z")
        told.append([])
        self.assertEqual(least_bindings(tally()), [["add", "swap"]])
