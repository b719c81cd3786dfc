import random
import unittest

from anyworker.errors import (
    InvalidArgument, InvalidWorker, NotFree, UnknownKind, UnlikeCells, UnlikeKinds, WorkError,
)
from anyworker.services import Service, sharing
from anyworker.values import answer, cell, passed, put, when
from anyworker.workers import bound_parting, closed, fewest_missed, holds, judge, mixed_parting, parting, serve
from tests import plain, plain_rows

# Sizes of own cells, sizes of common cells, numbers of arguments.
FORMS = [
    ([2], [2], [1, 1]), ([3], [2], [2, 1]), ([2, 2], [], [1, 1]), ([2, 2], [2], [2, 1]), ([2, 1, 2], [2], [1, 1, 1]),
    ([2, 3], [2], [1, 1, 1]), ([2, 2, 2], [], [1, 2]), ([4], [3], [1, 1, 1]), ([], [2, 2], [2, 1]), ([2], [], []),
]

# The square of the product of the own sizes, times that of the common ones, is at most 900.
GREATEST = [
    ([2, 1, 1, 1], [6, 6, 6, 1, 1, 1, 1, 1, 1, 1], [4, 4, 2, 1, 1]), ([2, 2, 3, 1], [6], [4, 3, 3, 1, 1]),
    ([1], [6, 6, 5, 5], [3, 3, 2, 2, 2]), ([3, 2], [5, 5], [4, 4, 4]), ([6, 2], [3, 2], [2, 2, 3, 3, 2]),
]


def shapes(seed, many):
    chance = random.Random(seed)
    for _ in range(many):
        yield plain.service_shape(chance, *chance.choice(FORMS))
        yield plain_rows.remember_shape(chance)
        yield plain.memo_shape(chance)
        yield plain_rows.gap_shape(chance)


def greatest_shapes(seed, many):
    chance = random.Random(seed)
    for _ in range(many):
        for form in GREATEST:
            yield plain.service_shape(chance, *form, many=12, signs=8)


def some_row(chance, shape, many, workers):
    return [chance.choice(plain.requests_of(shape)) + (chance.randrange(workers),) for _ in range(many)]


def tally():
    return Service([("n", 3)], [("c", 4)], [
        ("add", 2, [put("n", cell("n") + passed() + 1), answer(cell("n"))]), ("set", 4, [put("c", passed())]),
        ("swap", 1, [put("c", cell("n")), put("n", cell("c"))])])


def memo():
    fresh = when(~cell("k").same(cell("c")), [put("m", cell("c")), put("k", cell("c"))])
    return Service([("m", 2), ("k", 2)], [("c", 2)], [
        ("put", 2, [put("c", passed())]), ("look", 1, [fresh, answer(cell("m"))])])


def gap(size, limit):
    """Minds exactly limit missed requests, if limit is less than size - 1."""
    told = (cell("c") - cell("n")).rest(size)
    return Service([("n", size)], [("c", size)], [("ask", 1, [
        put("c", cell("c") + 1), when(~told.less(limit + 1), [answer(1)], [put("n", cell("c"))]), answer(0)])])


class Serve(unittest.TestCase):
    def test_answers_and_common_values(self):
        self.assertEqual(serve(tally(), []), [])
        row = [("add", 0, 0), ("add", 1, 3), ("set", 3, 3), ("add", 0, 0), ("swap", 0, 3), ("add", 1, 9), ("swap", 0, 0)]
        self.assertEqual(serve(tally(), row), [
            (1, [0]), (2, [0]), (None, [3]), (2, [3]), (None, [2]), (2, [2]), (None, [2])])
        self.assertEqual(serve(service=tally(), row=row[:1]), [(1, [0])])
        self.assertEqual(serve(Service([("a", 2)], [], [("k", 1, [])]), [("k", 0, 5)]), [(None, [])])

    def test_holds(self):
        self.assertIs(holds(tally(), []), True)
        self.assertIs(holds(tally(), [("add", 0, 7), ("set", 1, 0), ("set", 2, 3), ("add", 1, 7)]), True)
        self.assertIs(holds(tally(), [("add", 0, 7), ("add", 0, 8)]), False)
        self.assertIs(holds(service=tally(), row=[("add", 0, 7), ("add", 0, 8), ("set", 0, 1)]), False)
        # The answers are alike here, the common values are not.
        self.assertIs(holds(tally(), [("add", 0, 0), ("swap", 0, 1)]), False)
        # Both are alike at the end, but not all the while.
        self.assertIs(holds(tally(), [("add", 0, 0), ("swap", 0, 1), ("set", 1, 0)]), False)

    def test_errors(self):
        cases = [
            ([("mul", 0, 0)], UnknownKind, "mul"), ([("n", 9, -1)], UnknownKind, "n"),
            ([("add", 2, -1)], InvalidArgument, 2), ([("add", -1, 0)], InvalidArgument, -1),
            ([("add", 1, -1)], InvalidWorker, -1), ([("add", 1, 0), ("set", 3, -7)], InvalidWorker, -7),
            ([("add", 0, -1), ("mul", 0, 0)], InvalidWorker, -1), ([("add", 0, 0), ("set", 4, -2), ("mul", 0, 0)], InvalidArgument, 4),
            ([("add", 0, 0), ("add", 0, 1), ("mul", 0, 0)], UnknownKind, "mul"),
        ]
        for asked in [serve, holds]:
            for row, error, value in cases:
                kept = list(row)
                with self.assertRaises(WorkError) as caught:
                    asked(tally(), row)
                self.assertIs(type(caught.exception), error)
                self.assertEqual(caught.exception.value, value)
                self.assertEqual(row, kept)

    def test_shapes(self):
        chance = random.Random(1)
        found = []
        for shape in list(shapes(2, 60)) + list(greatest_shapes(3, 4)):
            if shape[2]:
                row = some_row(chance, shape, chance.choice([2, 5, 60]), chance.choice([2, 3, 10]))
                kept, service = list(row), plain.build(shape)
                self.assertEqual(serve(service, row), plain_rows.serve(shape, row))
                self.assertIs(holds(service, row), plain_rows.holds(shape, row))
                self.assertTrue(row == kept and service == plain.build(shape))
                found.append(holds(service, row))
        self.assertTrue(found.count(True) > 20 < found.count(False))

    def test_told_lists_are_new(self):
        row = [("set", 3, 0), ("add", 0, 0), ("add", 0, 0)]
        told = serve(tally(), row)
        self.assertTrue(all(type(part) is tuple and type(part[1]) is list for part in told))
        told[1][1].append(5)
        self.assertEqual(told, [(None, [3]), (1, [3, 5]), (2, [3])])
        told.clear()
        self.assertEqual(serve(tally(), row), [(None, [3]), (1, [3]), (2, [3])])


class Parting(unittest.TestCase):
    def test_order_of_rows(self):
        # Least length comes first, then the kinds, the arguments and the workers.
        service = Service([("a", 2), ("b", 2)], [], [
            ("see", 2, [answer(cell("a") & passed())]), ("two", 1, [put("b", cell("a"))]),
            ("set", 3, [put("a", passed() // 2)]), ("late", 1, [answer(cell("b"))])])
        self.assertEqual(parting(service), [("set", 2, 0), ("see", 1, 1)])
        self.assertEqual(parting(service=sharing(service, ["a"])), [("set", 2, 0), ("two", 0, 0), ("late", 0, 1)])
        self.assertEqual(parting(sharing(service, ["b"])), [("set", 2, 0), ("see", 1, 1)])
        self.assertIsNone(parting(sharing(service, ["b", "a"])))

    def test_worker_that_serves_first_may_go_wrong(self):
        service = Service([("a", 3)], [("c", 2)], [
            ("up", 1, [put("a", cell("a") + 1), put("c", cell("c") + 1)]), ("two", 1, [answer(cell("a").same(2))])])
        self.assertEqual(parting(service), [("up", 0, 0), ("up", 0, 0), ("two", 0, 1)])
        self.assertEqual(bound_parting(service, ["two"]), [("up", 0, 0), ("up", 0, 1), ("two", 0, 0)])

    def test_common_values_may_part(self):
        service = Service([("a", 2)], [("c", 2)], [("go", 1, [put("a", 1), put("c", cell("c") + cell("a"))]),
                                                    ("out", 1, [put("c", cell("a"))])])
        self.assertEqual(parting(service), [("go", 0, 0), ("out", 0, 1)])

    def test_free_ones(self):
        for service in [memo(), Service([], [], []), Service([("a", 2)], [], []), Service([("a", 1)], [("c", 6)], [
                ("up", 4, [put("c", cell("c") + passed()), put("a", cell("c")), answer(cell("a") + cell("c"))])])]:
            self.assertIsNone(parting(service))

    def test_compared_with_all_short_rows(self):
        found = []
        for shape in shapes(4, 40):
            told = parting(plain.build(shape))
            meant = plain_rows.Search(shape, workers=3).first(longest=4 if len(plain.requests_of(shape)) < 4 else 3)
            if meant is None:
                self.assertTrue(told is None or len(told) > 3, shape)
            else:
                self.assertEqual(told, meant, shape)
            found.append(meant and len(meant))
        self.assertTrue({None, 2, 3, 4} <= set(found), set(found))

    def test_compared_with_all_states(self):
        found = []
        for shape in shapes(5, 120):
            service = plain.build(shape)
            told = parting(service)
            self.assertEqual(told, plain_rows.Search(shape, workers=3).first(), shape)
            self.assertTrue(service == plain.build(shape))
            found.append(told and len(told))
            if told is not None:
                self.assertFalse(holds(service, told))
                self.assertTrue(holds(service, told[:-1]))
        self.assertTrue({None, 2, 3, 4, 5} <= set(found), set(found))

    def test_at_the_bounds(self):
        for shape in greatest_shapes(6, 4):
            self.assertEqual(parting(plain.build(shape)), plain_rows.Search(shape, workers=2).first(), shape)

    def test_long_rows(self):
        # 6 own values times 24 common ones, of which only the very last tells.
        wrap = when(~cell("d"), [put("n", cell("n") + 1)])
        turn = [put("c", cell("c") + 1), when(~cell("c"), [put("d", cell("d") + 1), wrap])]
        last = cell("n").same(5) & cell("d").same(3) & cell("c").same(5)
        service = Service([("n", 6)], [("c", 6), ("d", 4)], [("turn", 1, turn), ("last", 1, [answer(last)])])
        told = parting(service)
        self.assertEqual(told, [("turn", 0, 0)] * 143 + [("last", 0, 1)])
        self.assertFalse(holds(service, told))
        self.assertTrue(holds(service, told[:-1]))

    def test_told_list_is_new(self):
        told = parting(tally())
        told.append(told[0])
        told[0] = None
        self.assertEqual(parting(tally()), [("add", 0, 0), ("add", 0, 1)])


class Closed(unittest.TestCase):
    def test_small_ones(self):
        self.assertEqual(closed(Service([], [], [])), [((), (), ())])
        self.assertEqual(closed(service=Service([("a", 2)], [], [])), [((0,), (), (0,))])
        keep = Service([("a", 2)], [("c", 3)], [("up", 1, [put("a", 1), put("c", cell("c") + 1)])])
        self.assertEqual(closed(keep), [
            ((0,), (0,), (0,)), ((1,), (0,), (0,)), ((1,), (0,), (1,)), ((1,), (1,), (0,)), ((1,), (1,), (1,)),
            ((1,), (2,), (0,)), ((1,), (2,), (1,))])

    def test_not_free(self):
        for service in [tally(), gap(6, 3), sharing(memo(), ["k"]), sharing(memo(), ["m"])]:
            with self.assertRaises(NotFree) as caught:
                closed(service)
            self.assertEqual(caught.exception.value, parting(service))
            caught.exception.value.clear()
            self.assertTrue(parting(service))

    def test_compared_with_all_states(self):
        found = []
        for shape in list(shapes(7, 100)) + list(greatest_shapes(8, 1)):
            service = plain.build(shape)
            if parting(service) is None:
                told = closed(service)
                self.assertEqual(told, plain_rows.closed(shape), shape)
                self.assertIs(judge(service, told), True)
                self.assertTrue(all(type(part) is tuple for state in told for part in (state, *state)))
                self.assertTrue(service == plain.build(shape))
                found.append(len(told))
        self.assertTrue(len(found) > 100 and max(found) > 30, found)

    def test_at_the_bounds(self):
        # All 12 times 12 times 6 states come about.
        service = Service([("a", 6), ("b", 2)], [("c", 6)], [
            ("up", 6, [put("a", passed()), put("c", cell("c") + 1)]), ("turn", 2, [put("b", passed()), answer(cell("c"))])])
        told = closed(service)
        self.assertEqual((len(told), told), (864, sorted(told)))
        self.assertTrue(judge(service, told))

    def test_told_list_is_new(self):
        told = closed(memo())
        told.clear()
        self.assertEqual(len(closed(memo())), 8)


class Judge(unittest.TestCase):
    def test_order_and_repetition(self):
        table = closed(memo())
        for told in [table[::-1], table + table, table[3:] + table[:5]]:
            kept = list(told)
            self.assertIs(judge(service=memo(), table=told), True)
            self.assertEqual(told, kept)

    def test_each_state_is_asked_for(self):
        table = closed(memo())
        for at in range(len(table)):
            self.assertIs(judge(memo(), table[:at] + table[at + 1:]), False)
        self.assertIs(judge(memo(), []), False)

    def test_greater_tables(self):
        table = closed(memo())
        # A state that never comes about may stand there if all goes well in it.
        keep = Service([("a", 3)], [("c", 2)], [("up", 1, [put("c", cell("c") + 1), answer(cell("c"))])])
        self.assertEqual(closed(keep), [((0,), (0,), (0,)), ((0,), (1,), (0,))])
        more = closed(keep) + [((2,), (0,), (0,)), ((2,), (1,), (0,))]
        self.assertIs(judge(keep, more), True)
        self.assertIs(judge(keep, more[:-1]), False)
        self.assertIs(judge(keep, closed(keep) + [((0,), (0,), (1,)), ((0,), (1,), (1,))]), True)
        # The state with the worker's own values all 0 has to be there.
        self.assertIs(judge(keep, closed(keep) + [((2,), (0,), (1,)), ((2,), (1,), (1,))]), False)
        self.assertIs(judge(memo(), table + [((1, 0), (0,), (0, 0))]), False)

    def test_answers_and_common_values_have_to_be_right(self):
        for steps in [[answer(cell("a"))], [put("c", cell("a"))]]:
            service = Service([("a", 2)], [("c", 2)], [("see", 1, steps), ("set", 1, [put("a", 1)])])
            every = [((a,), (c,), (b,)) for a in range(2) for b in range(2) for c in range(2)]
            self.assertIs(judge(service, every), False)
        self.assertIs(judge(Service([("a", 2)], [("c", 2)], [("set", 1, [put("a", 1)])]), every), True)

    def test_compared_with_the_properties(self):
        chance = random.Random(9)
        found = []
        for shape in shapes(10, 100):
            service = plain.build(shape)
            first = parting(service)
            table = plain_rows.closed(shape) if first is None else sorted({
                (plain_rows.split(shape, one)[0], common, own)
                for one, common, crew in plain_rows.Search(shape, workers=2).reached() for own in crew})
            for _ in range(4):
                told = [state for state in table if chance.random() < 0.97]
                found.append(judge(service, told))
                self.assertIs(found[-1], plain_rows.judge(shape, told))
                # Only a free service has such a table.
                self.assertTrue(first is None or not found[-1])
        self.assertTrue(found.count(True) > 50 < found.count(False))


class FewestMissed(unittest.TestCase):
    def test_gaps(self):
        for size in [3, 4, 5, 6]:
            for limit in range(1, size - 1):
                self.assertEqual(fewest_missed(gap(size, limit)), limit)
            self.assertIsNone(fewest_missed(service=gap(size, size - 1)))
        self.assertIsNone(fewest_missed(memo()))
        self.assertIsNone(fewest_missed(Service([], [], [])))

    def test_those_ahead_of_the_first_one_count(self):
        # A worker that has served can miss all: only a fresh one goes wrong.
        service = Service([("a", 2)], [("c", 4)], [
            ("go", 1, [put("c", cell("c") + 1 - cell("c").same(3)), when(cell("c").same(3) & ~cell("a"), [answer(1)]), put("a", 1)])])
        self.assertEqual(fewest_missed(service), 2)
        self.assertEqual(parting(service), [("go", 0, 0)] * 2 + [("go", 0, 1)])

    def test_long_rows_with_few_missed(self):
        # Two missed ones show at once, a single one shows after many others only.
        count = (cell("c") - cell("n")).rest(6)
        service = Service([("n", 6)], [("c", 6), ("d", 4)], [
            ("add", 1, [put("n", cell("n") + 1), put("c", cell("c") + 1), answer(count.same(2))]),
            ("turn", 1, [put("d", cell("d") + 1)]), ("see", 1, [answer(cell("d").same(3) & ~count.same(0))])])
        self.assertEqual(parting(service), [("add", 0, 0), ("add", 0, 0), ("add", 0, 1)])
        self.assertEqual(fewest_missed(service), 1)

    def test_compared_with_all_short_rows(self):
        found = []
        for shape in shapes(11, 40):
            told = fewest_missed(plain.build(shape))
            short = plain_rows.fewest_missed(shape, longest=5 if len(plain.requests_of(shape)) < 4 else 4)
            self.assertTrue(short is None or told <= short, shape)
            self.assertTrue(told is not None or short is None, shape)
            found.append(told is not None and told == short)
        self.assertTrue(found.count(True) > 60, found.count(True))

    def test_compared_with_all_states(self):
        found = []
        for shape in shapes(12, 60):
            service = plain.build(shape)
            told = fewest_missed(service)
            self.assertEqual(told, plain_rows.fewest_missed(shape), shape)
            self.assertEqual(told is None, parting(service) is None)
            self.assertTrue(service == plain.build(shape))
            found.append(told)
        self.assertTrue({None, 1, 2, 3, 4} <= set(found), set(found))


class BoundParting(unittest.TestCase):
    def test_bindings(self):
        self.assertEqual(bound_parting(tally(), []), [("add", 0, 0), ("add", 0, 1)])
        self.assertEqual(bound_parting(tally(), ["add"]), [("add", 0, 0), ("swap", 0, 1)])
        self.assertIsNone(bound_parting(service=tally(), kinds=["swap", "add"]))
        self.assertIsNone(bound_parting(tally(), ["swap", "add", "swap", "set"]))

    def test_unknown_kinds(self):
        for kinds, wrong in [
            (["zzz"], "zzz"), (["n"], "n"), (["add", "c"], "c"), (["adds", "c"], "adds"), (["add", "c", "adds"], "c"),
            (["zz", "add", "aa"], "zz"), (["add", "set", "swap", "add", "b"], "b"), ([""], ""), (["Add"], "Add"),
        ]:
            self.fails(tally(), kinds, wrong)

    def test_unknown_kinds_of_a_free_service(self):
        free = Service([], [("c", 2)], [("set", 2, [put("c", passed())])])
        for kinds, wrong in [(["c"], "c"), (["set", "sets"], "sets")]:
            self.fails(free, kinds, wrong)
        for service in [Service([], [], []), Service([("n", 3)], [], [("add", 1, [])])]:
            self.fails(service, ["zzz"], "zzz")

    def fails(self, service, kinds, wrong):
        kept = list(kinds)
        with self.assertRaises(WorkError) as caught:
            bound_parting(service, kinds)
        self.assertIs(type(caught.exception), UnknownKind)
        self.assertEqual(caught.exception.value, wrong)
        self.assertEqual(kinds, kept)

    def test_compared_with_all_short_rows(self):
        chance = random.Random(13)
        found = []
        for shape in shapes(14, 40):
            kinds = [name for name, _, _ in shape[2] if chance.random() < 0.5]
            chance.shuffle(kinds)
            told = bound_parting(plain.build(shape), kinds)
            meant = plain_rows.Search(shape, bound=kinds).first(longest=4 if len(plain.requests_of(shape)) < 4 else 3)
            if meant is None:
                self.assertTrue(told is None or len(told) > 3, shape)
            else:
                self.assertEqual(told, meant, shape)
            found.append(meant and (len(meant), meant[-1][2]))
        self.assertTrue({None, (2, 0), (2, 1), (3, 0), (3, 1)} <= set(found), set(found))

    def test_compared_with_all_states(self):
        chance = random.Random(15)
        found = []
        for shape in list(shapes(16, 80)) + list(greatest_shapes(17, 2)):
            kinds = [name for name, _, _ in shape[2] if chance.random() < 0.5]
            workers = 3 if len(shape[2]) < 5 else 2
            told = bound_parting(plain.build(shape), kinds)
            self.assertEqual(told, plain_rows.Search(shape, bound=kinds, workers=workers).first(), (shape, kinds))
            found.append(told and (len(told), told[-1][2]))
        self.assertTrue({None, (2, 0), (2, 1), (3, 0), (3, 1), (4, 0)} <= set(found), set(found))


class MixedParting(unittest.TestCase):
    def test_edition_alone_may_part(self):
        one = Service([("a", 2)], [("c", 2)], [("see", 1, [answer(cell("c"))]), ("set", 2, [put("c", passed())])])
        other = Service([("a", 2)], [("c", 2)], [("see", 1, [answer(cell("c") + 1)]), ("set", 2, [put("c", passed())])])
        self.assertEqual(mixed_parting(one, other), [("see", 0, 1)])
        self.assertEqual(mixed_parting(service=other, edition=one), [("see", 0, 1)])
        third = Service([("a", 2)], [("c", 2)], [("see", 1, [answer(cell("c"))]), ("set", 2, [put("c", 1)])])
        self.assertEqual(mixed_parting(one, third), [("set", 0, 1)])
        self.assertIsNone(mixed_parting(one, one))

    def test_a_worker_2(self):
        # The edition never goes wrong, so that two workers run the service itself.
        one = Service([("a", 2)], [], [("see", 1, [put("a", 1), answer(0)]), ("last", 1, [answer(cell("a"))])])
        other = Service([("a", 2)], [], [("see", 1, [put("a", 1), answer(0)]), ("last", 1, [put("a", 1), answer(1)])])
        self.assertEqual(mixed_parting(one, other), [("last", 0, 1)])
        tell = Service([("a", 2)], [("c", 2)], [("see", 1, [put("a", 1), put("c", 1)]), ("last", 1, [answer(cell("a"))])])
        sure = Service([("a", 2)], [("c", 2)], [("see", 1, [put("a", 1), put("c", 1)]), ("last", 1, [answer(cell("c"))])])
        self.assertEqual(mixed_parting(tell, sure), [("see", 0, 0), ("last", 0, 2)])
        self.assertEqual(mixed_parting(sure, tell), [("see", 0, 0), ("last", 0, 1)])
        self.assertIsNone(mixed_parting(sure, sure))

    def test_errors(self):
        base = ([("a", 2), ("b", 2)], [("x", 2), ("y", 2)], [("k", 1, []), ("j", 2, [])])
        cells = [
            ([("a", 2)], base[1]), ([("a", 2), ("b", 3)], base[1]), ([("b", 2), ("a", 2)], base[1]),
            (base[0], [("x", 2)]), (base[0], [("x", 2), ("z", 2)]), (base[0], []), ([], base[1]),
            (base[0] + [("x", 2)], [("y", 2)]), (base[0], [("y", 2), ("x", 2)]),
        ]
        kinds = [[], base[2][:1], base[2][::-1], [("k", 2, []), ("j", 2, [])], [("k", 1, []), ("i", 2, [])]]
        one = Service(*base)
        for own, common in cells:
            for told in [base[2], []]:
                other = Service(own, common, told)
                self.fails(one, other, UnlikeCells, ((one.own, one.common), (own, common)))
                self.fails(other, one, UnlikeCells, ((own, common), (one.own, one.common)))
        for told in kinds:
            other = Service(base[0], base[1], told)
            self.fails(one, other, UnlikeKinds, (one.kinds, other.kinds))
            self.fails(other, one, UnlikeKinds, (other.kinds, one.kinds))

    def fails(self, one, other, error, value):
        with self.assertRaises(WorkError) as caught:
            mixed_parting(one, other)
        self.assertIs(type(caught.exception), error)
        self.assertEqual(caught.exception.value, value)
        self.assertIs(type(caught.exception.value), tuple)

    def test_compared_with_all_short_rows(self):
        chance = random.Random(18)
        found = []
        for shape in shapes(19, 30):
            other = plain.changed(chance, shape)
            longest = 3 if len(plain.requests_of(shape)) < 4 else 2
            told = mixed_parting(plain.build(shape), plain.build(other))
            meant = plain_rows.Search(shape, edition=other, workers=4).first(longest=longest)
            if meant is None:
                self.assertTrue(told is None or len(told) > longest, (shape, other))
            else:
                self.assertEqual(told, meant, (shape, other))
            found.append(meant and len(meant))
        self.assertTrue({None, 1, 2} <= set(found), set(found))

    def test_compared_with_all_states(self):
        chance = random.Random(20)
        found = []
        for shape in shapes(21, 100):
            # An edition with one more step at the end of a kind is often right.
            own, common, kinds = shape
            other = plain.changed(chance, shape)
            if own and chance.random() < 0.7:
                step = ("put", chance.choice(own)[0], chance.choice([0, 1, ("passed",)]))
                at = chance.randrange(max(1, len(kinds)))
                other = own, common, [
                    (name, many, [step] + steps if place == at else steps) for place, (name, many, steps) in enumerate(kinds)]
            told = mixed_parting(plain.build(shape), plain.build(other))
            self.assertEqual(told, plain_rows.Search(shape, edition=other, workers=4).first(), (shape, other))
            found.append(told and told[-1][2])
        self.assertTrue({None, 0, 1, 2} <= set(found), set(found))

    def test_at_the_bounds(self):
        chance = random.Random(22)
        for shape in greatest_shapes(23, 2):
            for other in [shape, plain.changed(chance, shape)]:
                told = mixed_parting(plain.build(shape), plain.build(other))
                self.assertEqual(told, plain_rows.Search(shape, edition=other, workers=3).first())
