import random
import unittest

from anyworker.errors import (
    InvalidArgument, InvalidValues, InvalidWorker, NothingToUndo, UnknownKind, WorkError, WrongWorker,
)
from anyworker.fleets import BoundFleet, Fleet
from anyworker.services import Service
from anyworker.values import answer, cell, passed, put
from anyworker.workers import holds, serve
from tests import plain
from tests.test_workers import greatest_shapes, shapes


def tally(size=3):
    return Service([("n", size), ("m", 2)], [("c", 4)], [
        ("add", 1, [put("n", cell("n") + 1), answer(cell("n"))]), ("set", 4, [put("c", passed())]),
        ("out", 1, [put("c", cell("n"))])])


class ByHand:
    """What a fleet should tell: all that was done, done anew each time it is asked."""

    def __init__(self, shape):
        self.shape = shape
        self.deeds = []

    def now(self):
        many = len(self.shape[0])
        crew, one = {}, plain.start(self.shape)
        common, answers, right = one[many:], [], True
        for deed in self.deeds:
            if deed[0] == "serve":
                kind, argument, worker = deed[1:]
                own = crew.get(worker, (0,) * many)
                told, cells = plain.serve(self.shape, own + common, kind, argument)
                said, one = plain.serve(self.shape, one, kind, argument)
                crew[worker], common = cells[:many], cells[many:]
                right = right and (told, common) == (said, one[many:])
                answers.append(told)
            elif deed[0] == "give":
                crew[deed[1]] = tuple(deed[2])
            else:
                crew[deed[1]] = (0,) * many
        own = [list(crew.get(worker, (0,) * many)) for worker in range(10)]
        return own, list(common), list(one[:many]), right, answers

    def row(self):
        return [deed[1:] for deed in self.deeds if deed[0] == "serve"]


class Checks(unittest.TestCase):
    def agrees(self, fleet, hand, worker):
        own, common, one, right, _ = hand.now()
        self.assertEqual([fleet[number] for number in range(10)], own)
        self.assertEqual((fleet.store, fleet.one, fleet.hand), (common, one, worker))
        self.assertIs(fleet.is_true, right)
        self.assertEqual((fleet.row(), len(fleet)), (hand.row(), len(hand.row())))

    def told(self, fleet):
        return [fleet[number] for number in range(10)], fleet.store, fleet.one, fleet.is_true, fleet.row(), fleet.hand

    def fails(self, fleet, error, value, call):
        before = self.told(fleet)
        with self.assertRaises(WorkError) as caught:
            call()
        self.assertIs(type(caught.exception), error)
        self.assertEqual(caught.exception.value, value)
        self.assertEqual(self.told(fleet), before)
        return caught.exception.value


class Calls(Checks):
    def test_at_first(self):
        fleet = Fleet(service=tally())
        self.assertEqual(self.told(fleet), ([[0, 0]] * 10, [0], [0, 0], True, [], 0))
        self.assertEqual(len(fleet), 0)
        self.assertEqual((Fleet(Service([], [], []))[3], Fleet(Service([], [], [])).store), ([], []))

    def test_worker_in_hand(self):
        fleet = Fleet(tally())
        self.assertEqual(fleet("add"), 1)
        self.assertEqual(fleet.take(2), 0)
        self.assertEqual((fleet.hand, fleet("add"), fleet("add", 0, 0), fleet("add", worker=0)), (2, 1, 2, 0))
        self.assertEqual(fleet.take(worker=5), 2)
        self.assertEqual((fleet.take(5), fleet.take(0), fleet.hand), (5, 5, 0))
        self.assertIsNone(fleet("set", 3, None))
        self.assertIsNone(fleet(worker=7, argument=2, kind="set"))
        self.assertIsNone(fleet("set"))
        self.assertEqual(fleet.row(), [("add", 0, 0), ("add", 0, 2), ("add", 0, 0), ("add", 0, 0),
                                       ("set", 3, 0), ("set", 2, 7), ("set", 0, 0)])

    def test_errors(self):
        for fleet in [Fleet(tally()), BoundFleet(tally(), ["add"])]:
            fleet("add")
            fleet.take(3)
            self.fails(fleet, UnknownKind, "mul", lambda: fleet("mul", 9, -1))
            self.fails(fleet, UnknownKind, "n", lambda: fleet("n"))
            self.fails(fleet, InvalidArgument, 4, lambda: fleet("set", 4, -1))
            self.fails(fleet, InvalidArgument, -1, lambda: fleet("add", -1, 2))
            self.fails(fleet, InvalidWorker, -2, lambda: fleet("add", 0, -2))
            self.fails(fleet, InvalidWorker, -1, lambda: fleet("set", worker=-1))
            self.fails(fleet, InvalidWorker, -1, lambda: fleet.take(-1))
            self.fails(fleet, InvalidWorker, -9, lambda: fleet.end(-9))
            self.fails(fleet, InvalidWorker, -1, lambda: fleet[-1])
            with self.assertRaises(TypeError):
                iter(fleet)

    def test_is_true(self):
        fleet = Fleet(tally())
        fleet("add")
        fleet("out", worker=1)
        self.assertIs(fleet.is_true, False)
        fleet("set", 2)
        # The store is that of the one worker once more, but it was not.
        self.assertEqual((fleet.store, fleet.is_true), ([2], False))
        fleet.undo()
        self.assertIs(fleet.is_true, False)
        fleet.undo()
        self.assertIs(fleet.is_true, True)

    def test_store_of_the_one_worker(self):
        service = Service([("n", 4)], [("c", 4)], [("up", 1, [put("c", cell("n") + 1), put("n", cell("c"))])])
        fleet = Fleet(service)
        for worker in [0, 1, 1, 0]:
            fleet("up", 0, worker)
        self.assertEqual((fleet.store, fleet.one, fleet[0], fleet[1]), ([2], [0], [2], [2]))

    def test_told_lists_are_new(self):
        fleet = Fleet(tally())
        fleet("add")
        before = self.told(fleet)
        for told in [fleet.store, fleet.one, fleet.row(), fleet[0], fleet[4], fleet.serve_all([])]:
            told.append(7)
            told[0] = 9
        self.assertEqual(self.told(fleet), before)

    def test_properties_cannot_be_set(self):
        for name in ["hand", "store", "one", "is_true", "bound"]:
            with self.assertRaises(AttributeError):
                setattr(BoundFleet(tally(), []), name, 1)


class ServeAll(Checks):
    def test_answers(self):
        fleet = Fleet(tally())
        fleet.take(4)
        row = [("add", 0, 0), ("add", 0, 1), ("set", 3, 4), ("add", 0, 0)]
        kept = list(row)
        self.assertEqual(fleet.serve_all(row), [1, 1, None, 2])
        self.assertEqual((row, fleet.row(), fleet.hand), (kept, kept, 4))
        row.clear()
        self.assertEqual(fleet.serve_all(row=[("out", 0, 0)]), [None])
        self.assertEqual(len(fleet), 5)
        self.assertEqual(fleet.serve_all([]), [])
        fleet.undo()
        fleet.undo()
        self.assertEqual(fleet.row(), kept[:3])

    def test_nothing_is_done_if_it_raises(self):
        good = [("add", 0, 0), ("set", 2, 1)]
        cases = [
            ([("mul", 0, 0)], UnknownKind, "mul"), ([("set", 4, -1)], InvalidArgument, 4), ([("set", 3, -1)], InvalidWorker, -1),
            ([("add", 0, -3), ("mul", 0, 0)], InvalidWorker, -3), ([("add", 5, 0), ("mul", 0, 0)], InvalidArgument, 5)]
        fleet = Fleet(tally())
        fleet.serve_all(good)
        fleet.end(0)
        for wrong, error, value in cases:
            row = good + wrong + good
            kept = list(row)
            self.fails(fleet, error, value, lambda: fleet.serve_all(row))
            self.assertEqual(row, kept)
        fleet.undo()
        self.assertEqual(fleet[0], [1, 0])

    def test_long_rows(self):
        fleet, service = Fleet(tally()), tally()
        row = [[("add", 0, n % 3), ("set", n % 4, n % 10), ("out", 0, 1)][n % 3] for n in range(60)]
        for many in range(1, 31):
            fleet.serve_all(row)
            self.assertEqual(len(fleet), 60 * many)
        self.assertEqual(fleet.row(), row * 30)
        self.assertEqual(serve(service, row * 30)[-1][1], fleet.store)
        for _ in range(60):
            fleet.undo()
        self.assertEqual(len(fleet), 1740)


class Settings(Checks):
    def test_setting_and_ending(self):
        fleet = Fleet(tally())
        values = [2, 1]
        fleet[3] = values
        values.append(0)
        self.assertEqual((fleet[3], fleet("add", 0, 3), fleet[3], len(fleet)), ([2, 1], 0, [0, 1], 1))
        self.assertIs(fleet.is_true, False)
        self.assertIsNone(fleet.end(3))
        self.assertEqual((fleet[3], fleet.store, fleet.one, len(fleet)), ([0, 0], [0], [1, 0], 1))
        self.assertIsNone(fleet.end(worker=8))
        for meant in [[0, 0], [0, 1], [2, 1], [0, 0]]:
            self.assertIsNone(fleet.undo())
            self.assertEqual(fleet[3], meant)
        with self.assertRaises(NothingToUndo):
            fleet.undo()

    def test_setting_alone_is_no_wrong(self):
        fleet = Fleet(tally())
        fleet[0] = [1, 0]
        self.assertIs(fleet.is_true, True)
        fleet("set", 1)
        self.assertIs(fleet.is_true, True)
        fleet("add")
        self.assertIs(fleet.is_true, False)

    def test_invalid_values(self):
        fleet = Fleet(tally())
        fleet[1] = [2, 1]
        for values in [[], [0], [0, 0, 0], [3, 0], [0, 2], [-1, 0], [0, -1], [5], [2, 1, 0]]:
            kept = list(values)

            def setting(at=1):
                fleet[at] = values

            told = self.fails(fleet, InvalidValues, kept, setting)
            self.assertIsNot(told, values)
            told.append(1)
            self.assertEqual(values, kept)
            self.fails(fleet, InvalidWorker, -4, lambda: setting(-4))
        with self.assertRaises(InvalidWorker):
            fleet[-1] = [0, 0]
        bare = Fleet(Service([], [("c", 2)], []))
        bare[2] = []
        with self.assertRaises(InvalidValues) as caught:
            bare[2] = [0]
        self.assertEqual(caught.exception.value, [0])

    def test_nothing_to_undo(self):
        for fleet in [Fleet(tally()), BoundFleet(tally(), ["add"])]:
            fleet.take(3)
            self.assertIs(type(self.fails(fleet, NothingToUndo, 0, fleet.undo)), int)
            fleet.serve_all([])
            self.fails(fleet, NothingToUndo, 0, fleet.undo)
            fleet("set", 2)
            fleet.take(1)
            fleet.undo()
            self.assertEqual((fleet.hand, len(fleet)), (1, 0))
            self.fails(fleet, NothingToUndo, 0, fleet.undo)


class Bound(Checks):
    def test_bound_kinds(self):
        self.assertTrue(issubclass(BoundFleet, Fleet))
        self.assertEqual(BoundFleet(tally(), []).bound, [])
        self.assertEqual(BoundFleet(service=tally(), kinds=["out", "add", "out"]).bound, ["add", "out"])
        kinds = ["set", "add"]
        fleet = BoundFleet(tally(), kinds)
        kinds.append("out")
        fleet.bound.append("out")
        self.assertEqual((fleet.bound, kinds), (["add", "set"], ["set", "add", "out"]))
        fleet("out", 0, 5)

    def test_unknown_kinds(self):
        for kinds, wrong in [(["mul"], "mul"), (["add", "n"], "n"), (["c", "mul"], "c"), ([""], "")]:
            kept = list(kinds)
            with self.assertRaises(WorkError) as caught:
                BoundFleet(tally(), kinds)
            self.assertIs(type(caught.exception), UnknownKind)
            self.assertEqual((caught.exception.value, kinds), (wrong, kept))

    def test_wrong_workers(self):
        fleet = BoundFleet(tally(), ["add"])
        self.assertEqual((fleet("add"), fleet("add", 0, 0), fleet("set", 1, 3)), (1, 2, None))
        self.fails(fleet, WrongWorker, 3, lambda: fleet("add", 0, 3))
        self.fails(fleet, WrongWorker, 1, lambda: fleet("add", worker=1))
        fleet.take(2)
        self.fails(fleet, WrongWorker, 2, lambda: fleet("add"))
        self.fails(fleet, WrongWorker, 2, lambda: fleet(kind="add", argument=0, worker=None))
        # It stands behind the other errors.
        self.fails(fleet, InvalidArgument, 1, lambda: fleet("add", 1, 3))
        self.fails(fleet, InvalidWorker, -3, lambda: fleet("add", 0, -3))
        self.assertEqual(fleet("add", worker=0), 0)
        row = [("set", 2, 1), ("add", 0, 0), ("add", 0, 1), ("mul", 0, 0)]
        self.fails(fleet, WrongWorker, 1, lambda: fleet.serve_all(row))
        self.fails(fleet, UnknownKind, "mul", lambda: fleet.serve_all(row[3:] + row[:3]))
        self.assertEqual(fleet.serve_all(row[:2]), [None, 1])
        fleet[4] = [1, 1]
        fleet.end(5)
        self.assertEqual((fleet[4], len(fleet)), ([1, 1], 6))


class Equality(Checks):
    def test_what_was_done_counts(self):
        deeds = [
            [], [("add", 0, 0)], [("add", 0, 1)], [("set", 0, 0)], [("set", 1, 0)], [("add", 0, 0), ("add", 0, 1)],
            [("add", 0, 1), ("add", 0, 0)], [3], [4], [3, 3], [(3, [0, 0])], [(3, [1, 0])], [(4, [1, 0])],
            [("add", 0, 3), 3], [3, ("add", 0, 3)], [(3, [1, 0]), 3],
        ]

        def made(told, begin):
            fleet = begin()
            for deed in told:
                if isinstance(deed, int):
                    fleet.end(deed)
                elif len(deed) == 2:
                    fleet[deed[0]] = deed[1]
                else:
                    fleet(*deed)
            return fleet

        begins = [lambda: Fleet(tally()), lambda: BoundFleet(tally(), []), lambda: Fleet(tally(4)),
                  lambda: BoundFleet(tally(), ["out"])]
        for at, one in enumerate(deeds):
            for place, other in enumerate(deeds):
                for first, begin in enumerate(begins):
                    for second, again in enumerate(begins):
                        left, right = made(one, begin), made(other, again)
                        self.assertIs(left == right, at == place and first == second, (one, other))
                        self.assertIs(left != right, not (at == place and first == second))

    def test_what_does_not_count(self):
        one, other = Fleet(tally()), Fleet(tally())
        one.take(3)
        self.assertTrue(one == other)
        one("add")
        other("add", 0, 3)
        self.assertTrue(one == other)
        one[2] = [1, 1]
        one("set", 2)
        one.undo()
        self.assertFalse(one == other)
        one.undo()
        self.assertTrue(one == other)
        one.serve_all([("add", 0, 0), ("set", 1, 1)])
        other("add", 0, 0)
        other("set", 1, 1)
        self.assertTrue(one == other)
        self.assertTrue(BoundFleet(tally(), ["out", "add"]) == BoundFleet(tally(), ["add", "out", "add"]))
        self.assertFalse(BoundFleet(tally(), ["out", "add"]) == BoundFleet(tally(), ["add"]))

    def test_nothing_else_is_equal(self):
        for fleet in [Fleet(tally()), BoundFleet(tally(), [])]:
            for other in [None, 0, [], "", tally(), (), object()]:
                self.assertFalse(fleet == other)
                self.assertFalse(other == fleet)
                self.assertTrue(fleet != other)


class AtRandom(Checks):
    def do(self, chance, fleet, hand, worker):
        """Does one thing to both, and returns the worker in hand behind it."""
        requests = plain.requests_of(hand.shape)
        what = chance.choice(["serve"] * 6 + ["hand"] * 2 + ["all", "give", "end", "take", "undo", "undo", "wrong"])
        number = chance.randrange(4)
        if what in ["serve", "hand", "all"] and requests:
            many = chance.randrange(4) if what == "all" else 1
            row = [chance.choice(requests) + (chance.randrange(4),) for _ in range(many)]
            if what == "hand":
                row = [row[0][:2] + (worker,)]
            hand.deeds += [("serve",) + turn for turn in row]
            told = fleet.serve_all(row) if what == "all" else [fleet(*row[0][:2 if what == "hand" else 3])]
            self.assertEqual(told, hand.now()[4][len(hand.row()) - many:])
        elif what == "give":
            values = [chance.randrange(size) for _, size in hand.shape[0]]
            fleet[number] = values
            hand.deeds.append(("give", number, values))
        elif what == "end":
            self.assertIsNone(fleet.end(number))
            hand.deeds.append(("end", number))
        elif what == "take":
            self.assertEqual(fleet.take(number), worker)
            return number
        elif what == "undo" and hand.deeds:
            self.assertIsNone(fleet.undo())
            hand.deeds.pop()
        elif what == "undo":
            with self.assertRaises(NothingToUndo):
                fleet.undo()
        elif what == "wrong":
            row = [turn + (1,) for turn in requests] + [("nothing", 0, 0)]
            with self.assertRaises(UnknownKind):
                fleet.serve_all(row)
        return worker

    def test_compared_with_serving_by_hand(self):
        chance = random.Random(40)
        found = []
        for shape in list(shapes(41, 12)) + list(greatest_shapes(42, 2)):
            service = plain.build(shape)
            fleet, hand, worker = Fleet(service), ByHand(shape), 0
            for _ in range(60):
                worker = self.do(chance, fleet, hand, worker)
                self.agrees(fleet, hand, worker)
                if not any(deed[0] != "serve" for deed in hand.deeds):
                    self.assertIs(fleet.is_true, holds(service, fleet.row()))
            found.append(fleet.is_true)
            while hand.deeds:
                fleet.undo()
                hand.deeds.pop()
                self.agrees(fleet, hand, worker)
            self.assertTrue(service == plain.build(shape))
            self.assertTrue(fleet == Fleet(service))
        self.assertTrue(found.count(True) > 4 < found.count(False), found)
