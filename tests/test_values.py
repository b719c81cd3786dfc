import random
import unittest

from anyworker.errors import InvalidDivisor, InvalidName, UnknownName
from anyworker.values import Value, answer, cell, number, passed, put
from tests import plain
from tests.names_at_edges import BAD, GOOD

A, B = cell("a"), cell("b")


class Names(unittest.TestCase):
    def test_good_names(self):
        for name in GOOD:
            self.assertEqual(cell(name).names, [name])
            self.assertEqual(cell(name=name).at({name: 7}, 0), 7)

    def test_bad_names(self):
        for name in BAD:
            with self.assertRaises(InvalidName) as caught:
                cell(name)
            self.assertEqual(caught.exception.value, name)

    def test_ascending_and_each_once(self):
        value = (cell("z") + cell("b")) * cell("ab") - cell("b").same(cell("a")) + cell("z").less(passed())
        self.assertEqual(value.names, ["a", "ab", "b", "z"])
        self.assertEqual((~value).names, ["a", "ab", "b", "z"])
        self.assertEqual((3 - value // 2).rest(4).names, ["a", "ab", "b", "z"])
        self.assertEqual([passed().names, number(3).names, (number(1) + 2).names], [[], [], []])

    def test_told_list_is_new(self):
        value = A + B
        value.names.append("c")
        value.names.clear()
        self.assertEqual(value.names, ["a", "b"])
        self.assertIsNot(value.names, value.names)
        with self.assertRaises(AttributeError):
            value.names = []


class Signs(unittest.TestCase):
    numbers = [-1000, -7, -3, -2, -1, 0, 1, 2, 3, 7, 1000, 10 ** 19, -(10 ** 20 - 1)]

    def agree(self, sign, meant, right=True):
        """Compares a sign with what is meant, for values on both sides, and for an integer on either."""
        for m in self.numbers:
            for n in self.numbers:
                held = {"a": m, "b": n}
                told = [sign(A, B), sign(A, n), sign(A, number(n)), sign(number(m), n)]
                if right:
                    told += [sign(m, B), sign(m, number(n))]
                for value in told:
                    self.assertIsInstance(value, Value)
                    self.assertEqual(value.at(held, 5), meant(m, n), (m, n))
                    self.assertIs(type(value.at(held, 5)), int)

    def test_sum_difference_product(self):
        self.agree(lambda x, y: x + y, lambda m, n: m + n)
        self.agree(lambda x, y: x - y, lambda m, n: m - n)
        self.agree(lambda x, y: x * y, lambda m, n: m * n)

    def test_and_or(self):
        self.agree(lambda x, y: x & y, lambda m, n: 1 if m != 0 and n != 0 else 0)
        self.agree(lambda x, y: x | y, lambda m, n: 1 if m != 0 or n != 0 else 0)

    def test_same_less(self):
        self.agree(lambda x, y: x.same(y), lambda m, n: 1 if m == n else 0, right=False)
        self.agree(lambda x, y: x.less(y), lambda m, n: 1 if m < n else 0, right=False)
        self.assertEqual([A.same(other=B).at({"a": 1, "b": 1}, 0), A.less(other=2).at({"a": 1}, 0)], [1, 1])

    def test_not(self):
        for n in self.numbers:
            self.assertEqual((~A).at({"a": n}, 0), 1 if n == 0 else 0)
            self.assertEqual((~~A).at({"a": n}, 0), 0 if n == 0 else 1)
            self.assertIs(type((~A).at({"a": n}, 0)), int)

    def test_divisions(self):
        cases = [(7, 2, 3, 1), (-7, 2, -4, 1), (-1, 3, -1, 2), (-6, 3, -2, 0), (0, 5, 0, 0), (5, 1, 5, 0),
                 (-5, 1, -5, 0), (4, 5, 0, 4), (-1, 1000, -1, 999), (-1000, 7, -143, 1)]
        for m, n, whole, rest in cases:
            self.assertEqual((A // n).at({"a": m}, 0), whole)
            self.assertEqual(A.rest(n).at({"a": m}, 0), rest)
            self.assertEqual(A.rest(n=n).at({"a": m}, 0), rest)
            self.assertEqual((number(m) // n).at({}, 0), whole)

    def test_invalid_divisors(self):
        for n in [0, -1, -2, -1000]:
            for divide in [lambda: A // n, lambda: A.rest(n), lambda: number(3) // n, lambda: passed().rest(n=n)]:
                with self.assertRaises(InvalidDivisor) as caught:
                    divide()
                self.assertEqual(caught.exception.value, n)

    def test_leaves(self):
        self.assertEqual([passed().at({}, 3), passed().at(held={"a": 9}, argument=-2)], [3, -2])
        self.assertEqual([number(n).at({}, 0) for n in self.numbers], self.numbers)
        self.assertEqual([number(n=4).at({}, 0), A.at({"a": -5}, 0)], [4, -5])

    def test_in_place_signs_leave_the_value(self):
        value = kept = cell("a")
        value += 1
        value -= 2
        value *= B
        value //= 3
        value &= 4
        value |= 5
        self.assertEqual(kept, cell("a"))
        self.assertEqual((kept.names, kept.at({"a": 3}, 0)), (["a"], 3))
        self.assertEqual(value, ((((((cell("a") + 1) - 2) * B) // 3) & 4) | 5))
        n = 5
        n += A
        self.assertEqual(n, 5 + A)


class At(unittest.TestCase):
    def test_least_missing_name(self):
        value = cell("c") + cell("b") * cell("a") - cell("d")
        for held, missing in [({}, "a"), ({"a": 1}, "b"), ({"b": 1, "a": 0}, "c"), ({"c": 1, "d": 1}, "a"),
                              ({"a": 0, "b": 0, "c": 0, "e": 1}, "d")]:
            kept = dict(held)
            with self.assertRaises(UnknownName) as caught:
                value.at(held, 0)
            self.assertEqual(caught.exception.value, missing)
            self.assertEqual(held, kept)

    def test_missing_names_count_even_if_they_decide_nothing(self):
        for value in [number(0) & A, number(1) | A, 0 * A]:
            with self.assertRaises(UnknownName):
                value.at({"b": 1}, 0)

    def test_more_names_than_asked_for(self):
        held = {"z": 9, "a": 2, "b": 3, "y": 1}
        self.assertEqual((A - B).at(held, 1), -1)
        self.assertEqual(list(held.items()), [("z", 9), ("a", 2), ("b", 3), ("y", 1)])

    def test_shapes(self):
        chance = random.Random(1)
        for _ in range(1500):
            shape = plain.value_shape(chance, ["a", "b", "cd"], chance.randint(1, 8))
            value = plain.build_value(shape)
            for _ in range(4):
                held = {name: chance.randint(-4, 6) for name in ["a", "b", "cd"]}
                argument = chance.randint(0, 3)
                self.assertEqual(value.at(held, argument), plain.worth(shape, held, argument), shape)


class Equality(unittest.TestCase):
    def test_built_alike(self):
        makers = [
            lambda: cell("a"), lambda: cell("b"), lambda: passed(), lambda: number(0), lambda: number(1),
            lambda: number(-1), lambda: cell("a") + 1, lambda: 1 + cell("a"), lambda: cell("a") - 1,
            lambda: 1 - cell("a"), lambda: cell("a") * 1, lambda: 1 * cell("a"), lambda: cell("a") // 1,
            lambda: cell("a").rest(1), lambda: cell("a").rest(2), lambda: cell("a") & 1, lambda: 1 & cell("a"),
            lambda: cell("a") | 1, lambda: 1 | cell("a"), lambda: ~cell("a"), lambda: ~~cell("a"),
            lambda: cell("a").same(1), lambda: number(1).same(cell("a")), lambda: cell("a").less(1),
            lambda: number(1).less(cell("a")), lambda: cell("a") + cell("b"), lambda: cell("b") + cell("a"),
            lambda: (cell("a") + 1) + 1, lambda: cell("a") + 2, lambda: cell("a") + (number(1) + 1),
            lambda: passed() + 1, lambda: number(1) + 1, lambda: number(2), lambda: cell("a").same(0),
        ]
        for at, one in enumerate(makers):
            for place, other in enumerate(makers):
                self.assertIs(one() == other(), at == place, (at, place))
                self.assertIs(one() != other(), at != place, (at, place))

    def test_integers_are_as_number_of_them(self):
        one, n = number(1), cell("n")
        pairs = [(n + 1, n + one), (1 + n, one + n), (n - 1, n - one), (1 - n, one - n), (n * 1, n * one),
                 (1 * n, one * n), (n & 1, n & one), (1 & n, one & n), (n | 1, n | one), (1 | n, one | n),
                 (n.same(1), n.same(one)), (n.less(1), n.less(one))]
        for left, right in pairs:
            self.assertTrue(left == right)
            self.assertFalse(left != right)

    def test_nothing_else_is_equal(self):
        for other in [1, 0, "a", None, ("a",), ["a"], answer(cell("a")), put("a", 1), object()]:
            for value in [cell("a"), number(1), number(0), passed()]:
                self.assertFalse(value == other)
                self.assertFalse(other == value)
                self.assertTrue(value != other)

    def test_shapes(self):
        chance = random.Random(2)
        shapes = [plain.value_shape(chance, ["a", "b"], chance.randint(1, 3)) for _ in range(120)]
        for one in shapes:
            for other in shapes:
                self.assertIs(plain.build_value(one) == plain.build_value(other), one == other)


class Bounds(unittest.TestCase):
    def test_signs_in_a_row_and_in_a_tree(self):
        row = cell("a")
        for n in range(13):
            row = row - n
        self.assertEqual((row.at({"a": 100}, 0), row.names), (22, ["a"]))
        tree = cell("a")
        for _ in range(13):
            tree = tree + tree
        again = cell("a")
        for _ in range(13):
            again = again + again
        self.assertEqual((tree.at({"a": 3}, 0), tree.names), (3 * 2 ** 13, ["a"]))
        self.assertTrue(tree == again)
        self.assertFalse(tree == again + 0)
        power = number(1000)
        for _ in range(8):
            power = power * power
        self.assertEqual(power.at({}, 0), 1000 ** 256)

    def test_deep_signs(self):
        left = right = cell("a")
        for _ in range(13):
            left, right = ~left, 1 - right
        self.assertEqual([left.at({"a": 5}, 0), right.at({"a": 5}, 0)], [0, -4])

    def test_long_integers(self):
        most = 10 ** 20 - 1
        self.assertEqual([number(most).at({}, 0), number(-most).at({}, 0)], [most, -most])
        self.assertEqual((cell("a") * most - most).at({"a": most}, 0), most * most - most)
        self.assertEqual((cell("a") // most).at({"a": -1}, 0), -1)
        self.assertEqual(cell("a").rest(most).at({"a": -1}, 0), most - 1)
        self.assertTrue(number(most) == number(10 ** 20 - 1))
        self.assertFalse(number(most) == number(most - 1))
