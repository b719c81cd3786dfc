import random
import unittest

from anyworker.readings import read_service, read_steps, read_value
from anyworker.services import Service, forgetting
from anyworker.texts import show_service, show_steps, show_value
from anyworker.values import answer, cell, number, passed, put, when
from tests import plain, plain_texts


def deep(many):
    """A list of steps that are so many deep."""
    steps = [put("a", many)]
    for n in range(many - 1):
        steps = [when(cell("b"), steps, [answer(n)] if n % 2 else [])]
    return steps


def sum_of(signs):
    value = passed()
    for _ in range(signs):
        value = value + 1
    return value


class Values(unittest.TestCase):
    def test_parts(self):
        a, b = cell("a"), cell("abcdefgh")
        cases = [
            (a, "a"), (b, "abcdefgh"), (passed(), "?"), (number(0), "0"), (number(-7), "-7"),
            (number(10 ** 20 - 1), "9" * 20), (number(1 - 10 ** 20), "-" + "9" * 20), (~a, "~a"), (~~number(-1), "~~-1"),
            (a + b, "(a + abcdefgh)"), (a - 3, "(a - 3)"), (3 - a, "(3 - a)"), (a - -3, "(a - -3)"), (a * passed(), "(a * ?)"),
            (a // 2, "(a // 2)"), (a.rest(5), "(a mod 5)"), (a & 1, "(a & 1)"), (1 | a, "(1 | a)"),
            (a.same(b), "(a = abcdefgh)"), (a.less(-1), "(a < -1)"), (~(a + 1), "~(a + 1)"), (~a + 1, "(~a + 1)"),
            ((a + 1) * (2 - a), "((a + 1) * (2 - a))"), (cell("mod").rest(3), "(mod mod 3)"),
        ]
        for value, text in cases:
            self.assertEqual(show_value(value), text)
            self.assertTrue(read_value(text) == value)
        self.assertEqual(show_value(value=a), "a")
        self.assertTrue(read_value(text="a") == a)

    def test_many_signs(self):
        self.assertEqual(show_value(sum_of(13)), "(" * 13 + "?" + " + 1)" * 13)
        self.assertEqual(show_value(~sum_of(12)), "~" + "(" * 12 + "?" + " + 1)" * 12)
        self.assertTrue(read_value(show_value(sum_of(12))) == sum_of(12))

    def test_shapes(self):
        chance = random.Random(50)
        for _ in range(800):
            shape = plain.value_shape(chance, ["a", "mod", "put", "abcdefgh"], chance.randint(0, 12))
            value = plain.build_value(shape)
            value = number(value) if isinstance(value, int) else value
            text = show_value(value)
            self.assertEqual(text, plain_texts.show_value(shape))
            self.assertTrue(read_value(text) == value)
            if "(" in text:
                self.assertTrue(show_value(~value) == "~" + text)


class Steps(unittest.TestCase):
    def test_parts(self):
        cases = [
            ([], ""), ([put("a", 1)], "put a 1"), ([answer(cell("b"))], "answer b"),
            ([put("put", cell("put")), answer(-3)], "put put put; answer -3"),
            ([when(1, [])], "when 1 {} else {}"),
            ([when(passed(), [answer(1), answer(2)], [put("a", ~cell("a"))])],
             "when ? {answer 1; answer 2} else {put a ~a}"),
            ([when(cell("when"), [], [when(2, [], [answer(0)])]), put("else", 0)],
             "when when {} else {when 2 {} else {answer 0}}; put else 0"),
        ]
        for steps, text in cases:
            kept = list(steps)
            self.assertEqual(show_steps(steps), text)
            self.assertTrue(steps == kept)
            self.assertTrue(read_steps(text) == steps)
        self.assertEqual(show_steps(steps=[answer(1)]), "answer 1")
        self.assertTrue(read_steps(text="answer 1") == [answer(1)])

    def test_deep_ones(self):
        for many in range(1, 7):
            self.assertTrue(read_steps(show_steps(deep(many))) == deep(many))
        # Six deep, and with nothing in the braces of the last ones.
        steps = [when(0, [])]
        for _ in range(5):
            steps = [when(1, [answer(2)], steps)]
        self.assertTrue(read_steps(show_steps(steps)) == steps)

    def test_shapes(self):
        chance = random.Random(51)
        for _ in range(300):
            shapes = plain.steps_shape(chance, ["a", "b", "else"], chance.randint(0, 12), 12, chance.randint(1, 6))
            steps = plain.build_steps(shapes)
            self.assertEqual(show_steps(steps), plain_texts.show_steps(shapes))
            self.assertTrue(read_steps(show_steps(steps)) == steps)

    def test_told_list_is_new(self):
        told = read_steps("")
        told.append(1)
        self.assertEqual(read_steps(""), [])


class Services(unittest.TestCase):
    def test_parts(self):
        cases = [
            (Service([], [], []), "own; common"),
            (Service([("a", 1)], [], []), "own a:1; common"),
            (Service([], [("a", 999), ("b", 10)], []), "own; common a:999 b:10"),
            (Service([("own", 2), ("kind", 3)], [("common", 4)], [("own", 5, []), ("kind", 999, [put("kind", cell("own"))])]),
             "own own:2 kind:3; common common:4; kind own:5 {}; kind kind:999 {put kind own}"),
            (Service([("a", 2)], [("c", 2)], [("k", 2, [when(passed(), [put("a", 1)]), answer(cell("c"))]), ("j", 1, [])]),
             "own a:2; common c:2; kind k:2 {when ? {put a 1} else {}; answer c}; kind j:1 {}"),
        ]
        for service, text in cases:
            self.assertEqual(show_service(service), text)
            self.assertTrue(read_service(text) == service)
        self.assertEqual(show_service(service=Service([], [], [])), "own; common")
        self.assertTrue(read_service(text="own; common") == Service([], [], []))

    def test_shapes(self):
        chance = random.Random(52)
        for _ in range(200):
            own = [chance.choice([1, 2, 6, 999]) for _ in range(chance.randint(0, 4))]
            common = [chance.choice([1, 2, 10, 100]) for _ in range(chance.randint(0, 10))]
            numbers = [chance.choice([1, 3, 999]) for _ in range(chance.randint(0, 5))]
            shape = plain.service_shape(chance, own, common, numbers, many=4, signs=6)
            service = plain.build(shape)
            text = show_service(service)
            self.assertEqual(text, plain_texts.show_service(shape))
            self.assertTrue(read_service(text) == service)
            self.assertEqual(show_service(service), text)

    def test_services_that_are_returned(self):
        service = Service([("a", 2), ("b", 3)], [], [("k", 1, [answer(cell("b"))])])
        text = show_service(forgetting(service, ["b", "a"]))
        self.assertEqual(text, "own a:2 b:3; common; kind k:1 {put a 0; put b 0; answer b}")
        self.assertTrue(read_service(text) == forgetting(service, ["a", "b"]))

    def test_greatest_text(self):
        steps = "; ".join(["put abcdefgh (" + "9" * 20 + " + 1)"] * 12)
        text = "own abcdefgh:6; common; " + "; ".join("kind %s:4 {%s}" % (name, steps) for name in "abcde")
        self.assertTrue(2000 < len(text) <= 3000, len(text))
        self.assertEqual(show_service(read_service(text)), text)
