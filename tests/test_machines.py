import itertools
import random
import unittest

from anyworker.errors import InvalidArgument, UnknownKind, UnlikeKinds, WorkError
from anyworker.machines import first_unlike, forgettable, machine, run
from anyworker.services import Service, forgetting, sharing
from anyworker.values import answer, cell, passed, put, when
from tests import plain

# Sizes of own cells, sizes of common cells, numbers of arguments.
FORMS = [
    ([2], [], [1]), ([3], [2], [2, 1]), ([], [3, 2], [1, 2]), ([2, 2], [], [1, 1]), ([2, 2], [2], [2, 1]),
    ([2, 1, 2], [3], [1, 2, 1]), ([2, 3, 2], [2], [3, 1]), ([2, 2, 3, 1], [], [2, 1]), ([4], [3], [1, 1, 1]),
    ([2, 2, 2], [], [1, 1, 2]), ([5], [], [2, 2]), ([3, 2], [2], [2, 1, 1]), ([6], [4], [2, 1]),
]
SMALL_FORMS = [([], [], [2, 1]), ([2], [2], []), ([], [], []), ([1], [], [4]), ([], [1], [1, 1])]

# The product of all sizes is 450, 72 and 450; 12 requests in 5 kinds.
GREATEST = [
    ([2, 1, 1, 1], [5, 5, 3, 3, 1, 1, 1, 1, 1, 1], [4, 4, 2, 1, 1]),
    ([2, 2, 3, 1], [6], [4, 3, 3, 1, 1]), ([1], [6, 5, 5, 3], [3, 3, 2, 2, 2]),
]


def shapes(seed, many):
    chance = random.Random(seed)
    for _ in range(many):
        yield plain.service_shape(chance, *chance.choice(FORMS * 3 + SMALL_FORMS))


def greatest_shapes(seed, many):
    chance = random.Random(seed)
    for _ in range(many):
        for form in GREATEST:
            yield plain.service_shape(chance, *form, many=12, signs=8)


def odometer(last):
    """Counts through 450 states, and answers 1 just behind the last of them."""
    done = answer(cell("d").same(0) & cell("c").same(0) & cell("b").same(0) & cell("a").same(0))
    step = [
        put("a", cell("a") + 1),
        when(~cell("a"), [put("b", cell("b") + 1),
                          when(~cell("b"), [put("c", cell("c") + 1), when(~cell("c"), [put("d", cell("d") + 1)])])]),
        done if last else answer(0)]
    return Service([], [("a", 6), ("b", 5), ("c", 5), ("d", 3)], [("tick", 1, step), ("rest", 3, [])])


class Run(unittest.TestCase):
    def setUp(self):
        self.service = Service(
            [("a", 3)], [("b", 4)],
            [("add", 2, [put("a", cell("a") + passed() + 1), answer(cell("a"))]), ("nop", 1, []),
             ("swap", 1, [put("a", cell("b")), put("b", cell("a")), answer(cell("a") * 10 + cell("b"))])])

    def test_answers(self):
        self.assertEqual(run(self.service, []), [])
        self.assertEqual(run(self.service, [("add", 0), ("add", 1), ("add", 1), ("nop", 0)]), [1, 0, 2, None])
        self.assertEqual(run(service=self.service, requests=[("add", 1), ("swap", 0), ("add", 0)]), [2, 0, 1])

    def test_errors(self):
        cases = [
            ([("mul", 0)], UnknownKind, "mul"), ([("a", 0)], UnknownKind, "a"), ([("mul", 9)], UnknownKind, "mul"),
            ([("add", 2)], InvalidArgument, 2), ([("add", -1)], InvalidArgument, -1),
            ([("nop", 1)], InvalidArgument, 1), ([("add", 0), ("add", 7), ("mul", 0)], InvalidArgument, 7),
            ([("add", 1), ("mul", 0), ("add", 7)], UnknownKind, "mul"), ([("nop", -5)], InvalidArgument, -5)]
        for requests, error, value in cases:
            kept = list(requests)
            with self.assertRaises(WorkError) as caught:
                run(self.service, requests)
            self.assertIs(type(caught.exception), error)
            self.assertEqual(caught.exception.value, value)
            self.assertEqual(requests, kept)

    def test_answer_ends_the_steps(self):
        early = when(passed(), [put("a", 1), answer(7), put("a", 2)], [when(1, [answer(8)]), answer(9)])
        service = Service([("a", 3)], [], [("try", 2, [early, put("a", 2), answer(5)]), ("see", 1, [answer(cell("a"))])])
        self.assertEqual(run(service, [("try", 1), ("see", 0), ("try", 0), ("see", 0)]), [7, 1, 8, 1])

    def test_steps_may_end_without_an_answer(self):
        service = Service([("a", 2)], [], [("go", 2, [when(passed(), [answer(cell("a"))]), put("a", cell("a") + 1)])])
        self.assertEqual(run(service, [("go", 1), ("go", 0), ("go", 1), ("go", 0), ("go", 1)]), [0, None, 1, None, 0])

    def test_values_are_of_the_moment(self):
        service = Service(
            [("a", 5), ("b", 5)], [],
            [("go", 1, [put("a", cell("a") + 1), put("b", cell("a") * 2), when(cell("b").same(2), [put("a", 4)]),
                        when(cell("a").same(4), [put("b", cell("b") - 3)], [put("b", 0)]),
                        answer(cell("a") * 10 + cell("b"))])])
        self.assertEqual(run(service, [("go", 0), ("go", 0)]), [44, 0])

    def test_remainders_and_negative_answers(self):
        service = Service([("a", 4)], [("c", 1)], [
            ("put", 1, [put("a", -1), put("c", 17), answer(cell("a") * 10 + cell("c"))]),
            ("say", 2, [answer(passed() - 1000)]), ("big", 1, [put("a", 1000 * number_of(1000)), answer(cell("a") - 5)])])
        self.assertEqual(run(service, [("put", 0), ("say", 0), ("say", 1), ("big", 0)]), [30, -1000, -999, -5])

    def test_sixty_requests(self):
        requests = [("add", n % 2) for n in range(60)]
        kept = list(requests)
        told = run(self.service, requests)
        self.assertEqual(told, [(n + 1 + (n + 1) // 2) % 3 for n in range(60)])
        self.assertEqual(requests, kept)
        told.clear()
        self.assertEqual(len(run(self.service, requests)), 60)

    def test_shapes(self):
        chance = random.Random(3)
        for shape in list(shapes(4, 400)) + list(greatest_shapes(5, 10)):
            if shape[2]:
                requests = [chance.choice(plain.requests_of(shape)) for _ in range(20)]
                self.assertEqual(run(plain.build(shape), requests), plain.run(shape, requests), shape)

    def test_forgetting_and_sharing_serve_alike(self):
        chance = random.Random(6)
        for shape in shapes(7, 150):
            names = [name for name, _ in shape[0] if chance.random() < 0.5]
            if shape[2]:
                requests = [chance.choice(plain.requests_of(shape)) for _ in range(12)]
                forgot = plain.run(plain.forgetting(shape, names), requests)
                self.assertEqual(run(forgetting(plain.build(shape), names), requests), forgot)
                self.assertEqual(run(sharing(plain.build(shape), names), requests), plain.run(shape, requests))


def number_of(n):
    return passed() + n


class FirstUnlike(unittest.TestCase):
    def test_first_in_order(self):
        def service(*told):
            return Service([("a", 2)], [], [
                ("p", 2, [answer(passed() * told[0])]), ("q", 1, [put("a", 1), answer(told[1])]),
                ("r", 2, [answer(cell("a") & passed() & told[2])])])

        base = service(0, 0, 0)
        self.assertIsNone(first_unlike(base, service(0, 0, 0)))
        self.assertEqual(first_unlike(base, service(1, 1, 1)), [("p", 1)])
        self.assertEqual(first_unlike(base, service(0, 1, 1)), [("q", 0)])
        self.assertEqual(first_unlike(base, service(0, 0, 1)), [("q", 0), ("r", 1)])
        self.assertEqual(first_unlike(one=service(0, 0, 1), other=base), [("q", 0), ("r", 1)])

    def test_no_answer_is_unlike_zero(self):
        one = Service([], [], [("k", 1, [])])
        self.assertEqual(first_unlike(one, Service([], [], [("k", 1, [answer(0)])])), [("k", 0)])

    def test_only_answers_count(self):
        one = Service([("a", 2)], [("c", 2)], [("k", 1, [put("c", cell("c") + 1), answer(1)])])
        self.assertIsNone(first_unlike(one, Service([], [], [("k", 1, [answer(1)])])))

    def test_compared_with_a_plain_search(self):
        chance = random.Random(8)
        found = []
        for shape in shapes(9, 500):
            own = [name for name, _ in shape[0]]
            other = plain.changed(chance, shape)
            if chance.random() < 0.6:
                other = plain.forgetting(shape, [name for name in own if chance.random() < 0.5])
            one, two = plain.build(shape), plain.build(other)
            meant = plain.first_unlike(shape, other)
            self.assertEqual(first_unlike(one, two), meant, (shape, other))
            self.assertEqual(first_unlike(two, one), meant, (shape, other))
            self.assertTrue(one == plain.build(shape) and two == plain.build(other))
            found.append(0 if meant is None else len(meant))
        # The shapes are worth the while only if they part late as well as at once.
        self.assertTrue({0, 1, 2, 3, 4} <= set(found), set(found))

    def test_compared_with_all_lists(self):
        chance = random.Random(10)
        for shape in shapes(11, 80):
            other = plain.changed(chance, shape)
            one, two = plain.build(shape), plain.build(other)
            meant = None
            for many in range(1, 5):
                for requests in itertools.product(plain.requests_of(shape), repeat=many):
                    if meant is None and run(one, requests)[-1] != run(two, requests)[-1]:
                        meant = list(requests)
            told = first_unlike(one, two)
            if meant is None:
                self.assertTrue(told is None or len(told) > 4)
            else:
                self.assertEqual(told, meant)

    def test_unlike_cells_and_sizes(self):
        def counter(name, size, top, around=False):
            kinds = [("up", 1, [put(name, cell(name) + 1), answer(cell(name).same(top))]),
                     ("set", 2, [put(name, passed())])]
            return Service([(name, size)], [], kinds[::-1] if around else kinds)

        self.assertEqual(first_unlike(counter("a", 6, 5), counter("b", 5, 5)), [("up", 0)] * 5)
        self.assertEqual(first_unlike(counter("a", 6, 2), counter("b", 5, 2)), [("up", 0)] * 7)
        self.assertEqual(first_unlike(counter("a", 6, 2, True), counter("b", 5, 2, True)),
                         [("set", 1)] + [("up", 0)] * 6)
        self.assertIsNone(first_unlike(counter("a", 6, 3), counter("b", 6, 3)))

    def test_at_the_bounds(self):
        self.assertEqual(first_unlike(odometer(True), odometer(False)), [("tick", 0)] * 450)
        self.assertEqual(first_unlike(odometer(False), odometer(True)), [("tick", 0)] * 450)
        self.assertIsNone(first_unlike(odometer(True), odometer(True)))
        chance = random.Random(12)
        for shape in greatest_shapes(13, 3):
            other = plain.forgetting(shape, [name for name, _ in shape[0] if chance.random() < 0.5])
            for two in [shape, other, plain.changed(chance, shape)]:
                meant = plain.first_unlike(shape, two)
                self.assertEqual(first_unlike(plain.build(shape), plain.build(two)), meant)
                self.assertEqual(first_unlike(plain.build(two), plain.build(shape)), meant)

    def test_many_pairs_of_states(self):
        # All pairs of states are reached: 450 of one, 448 of the other.
        def wheel(sizes):
            cells = [("abcd"[at], size) for at, size in enumerate(sizes)]
            turns = [put(name, cell(name) + 1) for name, _ in cells]
            return Service([], cells, [("abcd"[at], 3, [turn]) for at, turn in enumerate(turns)])

        one, other = wheel([6, 5, 5, 3]), wheel([4, 4, 4, 5])
        self.assertIsNone(first_unlike(one, other))
        self.assertEqual(machine(one), [[(None, 0)] * 12])

    def test_unlike_kinds(self):
        one = Service([("a", 2)], [], [("k", 1, []), ("j", 2, [])])
        for kinds in [[("j", 2), ("k", 1)], [("k", 1)], [], [("k", 1), ("j", 1)], [("k", 1), ("j", 2), ("i", 1)]]:
            other = Service([("a", 2)], [], [(name, many, []) for name, many in kinds])
            for left, right in [(one, other), (other, one)]:
                with self.assertRaises(UnlikeKinds) as caught:
                    first_unlike(left, right)
                self.assertEqual(caught.exception.value, (left.kinds, right.kinds))
                self.assertIs(type(caught.exception.value), tuple)
                caught.exception.value[0].append("x")
                caught.exception.value[1].clear()
            self.assertEqual((one.kinds, other.kinds), ([("k", 1), ("j", 2)], kinds))

    def test_told_list_is_new(self):
        one, other = odometer(True), Service([], [], [("tick", 1, []), ("rest", 3, [])])
        told = first_unlike(one, other)
        told.append(("rest", 0))
        self.assertEqual(first_unlike(one, other), [("tick", 0)])


class Machine(unittest.TestCase):
    def test_without_kinds_or_cells(self):
        self.assertEqual(machine(Service([("a", 2)], [], [])), [[]])
        self.assertEqual(machine(Service([], [], [])), [[]])
        self.assertEqual(machine(service=Service([], [], [("k", 2, [answer(passed())]), ("j", 1, [])])),
                         [[(0, 0), (1, 0), (None, 0)]])

    def test_numbers_as_reached_first(self):
        service = Service([("a", 4)], [], [
            ("set", 4, [put("a", 3 - passed())]), ("get", 1, [answer(cell("a"))])])
        self.assertEqual(machine(service), [
            [(None, 1), (None, 2), (None, 3), (None, 0), (0, 0)], [(None, 1), (None, 2), (None, 3), (None, 0), (3, 1)],
            [(None, 1), (None, 2), (None, 3), (None, 0), (2, 2)], [(None, 1), (None, 2), (None, 3), (None, 0), (1, 3)]])

    def test_states_that_answer_alike_are_one(self):
        service = Service([("a", 6)], [("c", 2)], [
            ("up", 1, [put("a", cell("a") + 1), put("c", cell("c") + 1), answer(cell("a").rest(3))])])
        self.assertEqual(machine(service), [[(1, 1)], [(2, 2)], [(0, 0)]])

    def test_compared_with_a_plain_walk(self):
        sizes = []
        for shape in shapes(14, 400):
            service = plain.build(shape)
            told = machine(service)
            self.assertEqual(told, plain.machine(shape), shape)
            self.assertTrue(service == plain.build(shape))
            sizes.append(len(told))
        self.assertTrue({1, 2, 3, 4, 5, 6} <= set(sizes), set(sizes))

    def walked(self, shape):
        """Compares a machine, too great to mark pairs, with the service by a walk beside it."""
        told, ways = machine(plain.build(shape)), plain.ways_of(shape)
        beside = {plain.start(shape): 0}
        line, seen = [plain.start(shape)], [0]
        for state in line:
            for (word, after), (said, number) in zip(ways(state), told[beside[state]]):
                self.assertEqual(word, said)
                if after not in beside:
                    beside[after] = number
                    line.append(after)
                self.assertEqual(beside[after], number)
                if number not in seen:
                    seen.append(number)
        self.assertEqual(seen, list(range(len(told))))
        self.apart(told)
        return len(told)

    def apart(self, told):
        """Checks that each two states of a machine are parted by some list of requests."""
        names = [0] * len(told)
        for _ in told:
            faces = [(names[at], [(word, names[after]) for word, after in row]) for at, row in enumerate(told)]
            order = []
            places = {}
            for face in faces:
                places.setdefault(str(face), len(places))
                order.append(places[str(face)])
            if order == names:
                break
            names = order
        self.assertEqual(len(set(names)), len(told))

    def test_at_the_bounds(self):
        found = [self.walked(shape) for shape in greatest_shapes(15, 4)]
        self.assertTrue(max(found) > 20, found)

    def test_greatest_machine(self):
        told = machine(odometer(True))
        self.assertEqual(told, [
            [(1 if at == 449 else 0, (at + 1) % 450)] + [(None, at)] * 3 for at in range(450)])

    def test_alike_exactly_if_machines_are_the_same(self):
        chance = random.Random(16)
        found = []
        for shape in shapes(17, 300):
            other = plain.forgetting(shape, [name for name, _ in shape[0] if chance.random() < 0.5])
            if chance.random() < 0.4:
                other = plain.changed(chance, shape)
            one, two = plain.build(shape), plain.build(other)
            found.append(first_unlike(one, two) is None)
            self.assertEqual(found[-1], machine(one) == machine(two))
        self.assertTrue(found.count(True) > 50 < found.count(False))

    def test_told_lists_are_new(self):
        service = Service([("a", 2)], [], [("k", 1, [put("a", cell("a") + 1), answer(cell("a"))])])
        told = machine(service)
        self.assertEqual(told, [[(1, 1)], [(0, 0)]])
        told[0].append(5)
        told[1].clear()
        told.append([])
        self.assertEqual(machine(service), [[(1, 1)], [(0, 0)]])
        self.assertIs(type(machine(service)[0][0]), tuple)


class Forgettable(unittest.TestCase):
    def test_no_own_cells(self):
        self.assertEqual(forgettable(Service([], [("c", 2)], [("k", 1, [answer(cell("c"))])])), [[]])
        self.assertEqual(forgettable(service=Service([], [], [])), [[]])

    def test_no_kinds(self):
        self.assertEqual(forgettable(Service([("b", 2), ("a", 3)], [("c", 2)], [])), [["b", "a"]])

    def test_several_greatest_sets(self):
        # Each of three cells is the same number; one that is kept is enough.
        keep = [when(cell(name), [put("a", 1), put("b", 1), put("c", 1)]) for name in "abc"]
        service = Service([("b", 2), ("a", 2), ("c", 2)], [], [
            ("set", 1, [put("a", 1), put("b", 1), put("c", 1)]), ("get", 1, keep + [answer(cell("a"))])])
        self.assertEqual(forgettable(service), [["b", "a"], ["b", "c"], ["a", "c"]])

    def test_a_greater_set_may_do_where_a_less_one_does_not(self):
        fresh = when(~cell("k").same(cell("c")), [put("m", cell("c")), put("k", cell("c"))])
        memo = Service([("m", 2), ("k", 2), ("n", 3)], [("c", 2)], [
            ("put", 2, [put("c", passed())]), ("look", 1, [fresh, answer(cell("m"))]),
            ("add", 1, [put("n", cell("n") + 1), answer(cell("n"))])])
        self.assertEqual(forgettable(memo), [["m", "k"]])
        self.assertIsNotNone(first_unlike(memo, forgetting(memo, ["m"])))
        self.assertIsNotNone(first_unlike(memo, forgetting(memo, ["k"])))

    def test_sets_by_number_then_by_order(self):
        # Either e alone is kept, or both halves of it.
        both = [when(cell("e"), [put("h", 1), put("k", 1)]), when(cell("h") & cell("k"), [put("e", 1)])]
        service = Service([("h", 2), ("e", 2), ("k", 2)], [], [
            ("set", 1, [put("e", 1), put("h", 1), put("k", 1)]), ("get", 1, both + [answer(cell("e"))])])
        self.assertEqual(forgettable(service), [["e"], ["h", "k"]])

    def test_compared_with_a_plain_search(self):
        found = []
        chance = random.Random(20)
        for shape in list(shapes(18, 300)) + [plain.memo_shape(chance) for _ in range(600)]:
            service = plain.build(shape)
            told = forgettable(service)
            self.assertEqual(told, plain.forgettable(shape), shape)
            self.assertTrue(service == plain.build(shape))
            found.append(len(told))
        # The shapes are worth the while only if some have several greatest sets.
        self.assertTrue({1, 2, 3} <= set(found), set(found))

    def test_at_the_bounds(self):
        for shape in greatest_shapes(19, 2):
            self.assertEqual(forgettable(plain.build(shape)), plain.forgettable(shape))

    def test_told_lists_are_new(self):
        service = Service([("a", 2), ("b", 2)], [], [("k", 1, [answer(1)])])
        told = forgettable(service)
        self.assertEqual(told, [["a", "b"]])
        told[0].append("c")
        told.append([])
        self.assertEqual(forgettable(service), [["a", "b"]])
