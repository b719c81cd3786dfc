"""Texts that are none."""

import random
import unittest

from anyworker.errors import Unreadable, WorkError
from anyworker.readings import read_service, read_steps, read_value
from anyworker.texts import show_service, show_steps, show_value
from tests import plain, plain_texts

ATOMS = [
    "", " ", "A", "aB", "abcdefghi", "a1", "1a", "_", "a_b", "a b", " a", "a ", "\"a\"", "??", "?a", "a?",
    "-", "--1", "- 1", "+1", "00", "01", "007", "-0", "-00", "-01", "0x1", "1.0", "1e3", "1_0", "1" * 21,
    "-" + "1" * 21, "0" * 21, "-?", "-a", "True", "None", "`", "{", "}", "a;", "a~", "@", "(", ")", "()",
    "(a)", "(1)", "~", "~ a", "~(a)", "a~b", "~~",
]

PAIRS = [
    "a + b", "(a + b", "a + b)", "(a+b)", "(a +b)", "(a+ b)", "(a  + b)", "( a + b)", "(a + b )", "(a + b) ",
    " (a + b)", "(a + )", "( + a)", "(a +)", "(a b)", "(a + b + c)", "(a + b c)", "((a + b))", "[a + b]",
    "(a - )", "(a - -)", "(a -3)", "(a / 2)", "(a % 2)", "(a /// 2)", "(a ** 2)", "(a && b)", "(a || b)",
    "(a == b)", "(a > b)", "(a <= b)", "(a ! b)", "(a rest 2)", "(a same 2)", "(a less 2)", "(a MOD 2)",
    "(a and b)", "(a ^ b)", "(a // 0)", "(a mod 0)", "(a // -1)", "(a mod -2)", "(a // b)", "(a mod ?)",
    "(a // (1 + 1))", "(a mod ~1)", "(a // 01)", "(a mod " + "1" * 21 + ")", "(a // -0)", "(a + 01)",
    "(A + 1)", "(a + abcdefghi)", "(a + b)c", "(a + b)(c + d)", "~(a + b", "(~ + a)", "(a ~ b)", "(a // )",
    "(a mod)", "(modmod 3)", "(a mod3)", "(amod 3)", "(a\t+ b)", "(a +\nb)", "(a\u00a0+ b)", "\uff11",
    "\u0661",
]

STEPS = [
    " ", ";", "; ", "put", "put ", "put a", "put a ", "put a  1", "put  a 1", " put a 1", "put a 1 ",
    "put a 1;", "put a 1; ", "put a 1;put b 2", "put a 1 ; put b 2", "put a 1, put b 2", "put a 1  ; put b 2",
    "; put a 1", "put A 1", "put abcdefghi 1", "put 1 a", "put ? 1", "put a 01", "put a b c", "put a (b)",
    "puta 1", "Put a 1", "set a 1", "put a = 1", "put a 1; 2", "a", "1", "answer", "answer ", "answer  1",
    "answer 1 2", "answer None", "answer(1)", "answer a b", "answers a", "return 1", "when", "when a",
    "when a {}", "when a {} else", "when a {} else ", "when a {} else {", "when a { } else {}",
    "when a {}else {}", "when a {} else{}", "when a{} else {}", "when a  {} else {}", "when {} else {}",
    "when a {put b 1;} else {}", "when a {; put b 1} else {}", "when a {} else {} else {}",
    "when a {} otherwise {}", "when a [] else []", "when a {}} else {}", "when a {{} else {}",
    "when a {} else {}}", "}", "{}", "{put a 1}", "put a 1}", "when a {put b 1} else {put c 2",
    "when a {put b 1 else {put c 2}", "when a {}; put b 1 else {}", "when a b {} else {}", "else {}",
    "when a {b} else {}",
]

CELLS = [
    "", " ", "own", "own;", "own; ", "own;common", "own ; common", "own; common;", "own; common; ",
    "own; common ", " own; common", "common; own", "Own; common", "owns; common", "own; commons",
    "own a; common", "own a:; common", "own :1; common", "own a:1;  common", "own  a:1; common",
    "own a: 1; common", "own a :1; common", "own a:1 ; common", "own a:1 b; common", "own a:1b:2; common",
    "own a:1, b:2; common", "own a:0; common", "own a:00; common", "own a:01; common", "own a:-1; common",
    "own a:1000; common", "own a:9999; common", "own a:0100; common", "own a:1.5; common", "own a:?; common",
    "own a:b; common", "own A:1; common", "own abcdefghi:1; common", "own 1:1; common", "own a:1 a:1; common",
    "own a:1 b:2 a:3; common", "own a:1; common a:1", "own; common a:1 a:2", "own; common b:1000",
    "own; common b:0", "own; common b:01", "own a=1; common", "own a:1; common; common", "own; own; common",
    "own a:1", "own a:1;", "common", "own; common; own", "own a:1\n; common",
]

KINDS = [
    "own; common; kind", "own; common; kind ", "own; common; kind k", "own; common; kind k:1",
    "own; common; kind k:1 ", "own; common; kind k:1{}", "own; common; kind k:1  {}",
    "own; common; kind k {}", "own; common; kind k: {}", "own; common; kind k:0 {}",
    "own; common; kind k:01 {}", "own; common; kind k:1000 {}", "own; common; kind k:-1 {}",
    "own; common; kind K:1 {}", "own; common; kind abcdefghi:1 {}", "own; common; kind 1:1 {}",
    "own; common; kind k:1 {", "own; common; kind k:1 }", "own; common; kind k:1 {}}",
    "own; common; kind k:1 {} ", "own; common; kind k:1 {};", "own; common; kind k:1 {}; ",
    "own; common; kind k:1 {}; j:1 {}", "own; common; kind k:1 {} kind j:1 {}",
    "own; common; kind k:1 {};kind j:1 {}", "own; common; kinds k:1 {}", "own; common;kind k:1 {}",
    "own; common kind k:1 {}", "own; kind k:1 {}; common", "kind k:1 {}",
    "own; common; kind k:1 {}; kind k:1 {}", "own; common; kind k:1 {}; kind j:2 {}; kind k:3 {}",
    "own; common; kind k:1 { }", "own; common; kind k:1 {answer 1;}", "own; common; kind k:1 {answer}",
    "own; common; kind k:1 answer 1", "own; common; kind k:1 {answer a}", "own; common; kind k:1 {put a 1}",
    "own b:1; common c:1; kind k:1 {answer (b + a)}", "own a:1; common; kind k:1 {when 1 {put b 1} else {}}",
    "own a:1; common; kind k:1 {when 1 {} else {answer c}}", "own a:1; common; kind k:1 {answer k}",
    "own a:1; common; kind k:1 {}; kind j:1 {when b {} else {}}", "own; common; kind k:1 2 {}",
    "own; common; kind k j:1 {}", "own; common; kind k:1 {}; common", "own; common; kind k:1 [answer 1]",
]


def deep(many, last="answer 1"):
    """A text of steps that are so many deep."""
    text = last
    for n in range(many - 1):
        text = "when a {%s} else {}" % text if n % 2 else "when a {} else {%s}" % text
    return text


class Unread(unittest.TestCase):
    def refused(self, read, text):
        with self.assertRaises(WorkError) as caught:
            read(text)
        self.assertIs(type(caught.exception), Unreadable)
        self.assertEqual(caught.exception.value, text)

    def test_values(self):
        for text in ATOMS + PAIRS:
            self.refused(read_value, text)
            self.refused(read_steps, "put a " + text)
            self.refused(read_steps, "when " + text + " {} else {}")
            self.refused(read_service, "own a:2; common b:2; kind k:1 {answer " + text + "}")

    def test_too_many_signs(self):
        for signs, read in [(12, True), (13, False), (14, False), (400, False), (700, False)]:
            for text in ["(" * signs + "a" + " + 1)" * signs, "(a - " * signs + "1" + ")" * signs, "~" * signs + "a",
                         "~(" * (signs // 2) + "~" * (signs % 2) + "a" + " mod 2)" * (signs // 2)]:
                if read:
                    self.assertEqual(show_value(read_value(text)), text)
                    steps = "put b %s; answer %s" % (text, text)
                    self.assertEqual(show_steps(read_steps(steps)), steps)
                else:
                    self.refused(read_value, text)
                    self.refused(read_steps, "put b %s" % text)
        six, five = "(" * 6 + "a" + " * 2)" * 6, "(" * 5 + "a" + " * 2)" * 5
        self.assertEqual(show_value(read_value("(%s + %s)" % (six, five))), "(%s + %s)" % (six, five))
        self.refused(read_value, "(%s + %s)" % (six, six))

    def test_long_texts(self):
        for text in ["(" * 3000, "~" * 3000, "a" * 3000, "1" * 3000, " " * 3000, "-" * 3000, ")" * 3000, "(~" * 1500,
                     "~" * 2999 + "a", "(a + " * 600, "{" * 3000]:
            for read in [read_value, read_steps, read_service]:
                self.refused(read, text)
        for text in ["when a {" * 375, "when a {} else {" * 180, "put a 1; " * 300, "own" + " a:1" * 700 + "; common",
                     deep(120), "own; common; kind k:1 {" + "when 1 {" * 300]:
            for read in [read_value, read_steps, read_service]:
                self.refused(read, text)
        long = "; ".join(["put a 1"] * 300)
        self.assertEqual(show_steps(read_steps(long)), long)

    def test_steps(self):
        for text in STEPS:
            self.refused(read_steps, text)
            self.refused(read_service, "own a:2 b:2 c:2; common; kind k:1 {" + text + "}")

    def test_too_deep(self):
        for many in range(1, 7):
            self.assertEqual(show_steps(read_steps(deep(many))), deep(many))
            text = "own a:2; common; kind k:1 {%s}" % deep(many)
            self.assertEqual(show_service(read_service(text)), text)
        empty = deep(6, "when a {} else {}")
        self.assertEqual(show_steps(read_steps(empty)), empty)
        for text in [deep(7), deep(8), deep(30), deep(7, "when a {} else {}"), deep(6, "when a {put b 1} else {}"),
                     "answer 1; " + deep(7), deep(6) + "; " + deep(7)]:
            self.refused(read_steps, text)
            self.refused(read_service, "own a:2 b:2; common; kind k:1 {%s}" % text)

    def test_services(self):
        for text in CELLS + KINDS:
            self.refused(read_service, text)


class Changed(unittest.TestCase):
    """A text that is read is that of what was read: whatever is else is refused."""

    def read_or_refused(self, read, show, text):
        try:
            told = read(text)
        except Unreadable as error:
            self.assertEqual(error.value, text)
            return False
        self.assertEqual(show(told), text)
        return True

    def texts(self, chance, text):
        """Texts with a sign left out, put in, or exchanged, or with a part doubled."""
        signs = "ab?~(){}:; +-*/&|=<>019mod,A"
        for _ in range(6):
            at = chance.randrange(len(text) + 1)
            sign, until = chance.choice(signs), min(len(text), at + chance.randint(1, 6))
            yield chance.choice([
                text[:at] + text[at + 1:], text[:at] + sign + text[at:], text[:at] + sign + text[at + 1:],
                text[:until] + text[at:], text[:at] + text[until:]])

    def test_values(self):
        chance = random.Random(60)
        found = []
        for _ in range(600):
            shape = plain.value_shape(chance, ["a", "mod"], chance.randint(0, 13))
            for text in [plain_texts.show_value(shape), *self.texts(chance, plain_texts.show_value(shape))]:
                told = self.read_or_refused(read_value, show_value, text)
                self.assertIs(told, plain_texts.is_value(text), text)
                found.append(told)
        self.assertTrue(found.count(True) > 500 < found.count(False), found.count(True))

    def test_steps_and_services(self):
        chance = random.Random(61)
        found = []
        for _ in range(300):
            shape = plain.service_shape(chance, [2, 3], [4], [1, 2], many=4, signs=3)
            for text in self.texts(chance, plain_texts.show_service(shape)):
                found.append(self.read_or_refused(read_service, show_service, text))
            for text in self.texts(chance, plain_texts.show_steps(shape[2][0][2])):
                found.append(self.read_or_refused(read_steps, show_steps, text))
        self.assertTrue(found.count(True) > 100 < found.count(False), found.count(True))
