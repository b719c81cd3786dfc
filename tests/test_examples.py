"""The examples of the document, as they stand there."""

import doctest
import os
import unittest

VALUES = '''
>>> from anyworker.values import answer, cell, number, passed, put, when
>>> asked = (cell("n") * 2 + passed()).rest(5)
>>> [asked.names, asked.at({"n": 4}, 3), (~cell("n")).at({"n": 0}, 0), (cell("n") & 3).at({"n": 2}, 0), cell("n").less(passed()).at({"n": 1}, 2), cell("n") + 1 == cell("n") + number(1), 1 + cell("n") == cell("n") + 1]
[['n'], 1, 1, 1, 1, True, False]
>>> step = when(cell("b").same(0), [put("a", cell("c"))])
>>> [step.names, step == when(cell("b").same(number(0)), [put("a", cell("c"))], []), answer(3) == answer(number(3))]
[['a', 'b', 'c'], True, True]
'''

SERVICES = '''
>>> from anyworker.services import Service, forgetting, sharing
>>> from anyworker.values import answer, cell, passed, put, when
>>> fresh = when(~cell("k").same(cell("c")), [put("m", cell("c")), put("k", cell("c"))])
>>> memo = Service([("m", 2), ("k", 2)], [("c", 2)], [("put", 2, [put("c", passed())]), ("look", 1, [fresh, answer(cell("m"))])])
>>> tally = Service([("n", 3)], [], [("add", 1, [put("n", cell("n") + 1), answer(cell("n"))])])
>>> [memo.own, memo.kinds, len(memo), sharing(memo, ["k"]).common, (memo | tally).own, (memo | tally)["add"] == tally["add"], forgetting(tally, ["n"])["add"][0] == put("n", 0)]
[[('m', 2), ('k', 2)], [('put', 2), ('look', 1)], 2, [('c', 2), ('k', 2)], [('m', 2), ('k', 2), ('n', 3)], True, True]
'''

MACHINES = '''
>>> from anyworker.machines import first_unlike, forgettable, machine, run
>>> from anyworker.services import Service, forgetting
>>> from anyworker.values import answer, cell, passed, put, when
>>> fresh = when(~cell("k").same(cell("c")), [put("m", cell("c")), put("k", cell("c"))])
>>> memo = Service([("m", 2), ("k", 2)], [("c", 2)], [("put", 2, [put("c", passed())]), ("look", 1, [fresh, answer(cell("m"))])])
>>> tally = Service([("n", 3)], [], [("add", 1, [put("n", cell("n") + 1), answer(cell("n"))])])
>>> [run(memo, [("put", 1), ("look", 0), ("put", 0), ("look", 0)]), machine(tally), machine(memo), first_unlike(tally, forgetting(tally, ["n"])), forgettable(memo), forgettable(tally)]
[[None, 1, None, 0], [[(1, 1)], [(2, 2)], [(0, 0)]], [[(None, 0), (None, 1), (0, 0)], [(None, 0), (None, 1), (1, 1)]], [('add', 0), ('add', 0)], [['m', 'k']], [[]]]
'''


class Examples(unittest.TestCase):
    def hold(self, text, many):
        test = doctest.DocTestParser().get_doctest(text, {}, "example", None, 0)
        wrong = []
        found = doctest.DocTestRunner(verbose=False).run(test, out=wrong.append)
        self.assertEqual((found.failed, found.attempted), (0, many), "".join(wrong))

    def test_values(self):
        self.hold(VALUES, 5)

    def test_services(self):
        self.hold(SERVICES, 6)

    def test_machines(self):
        self.hold(MACHINES, 7)

    def test_readme(self):
        path = os.path.join(os.path.dirname(os.path.dirname(os.path.abspath(__file__))), "README.md")
        with open(path, encoding="utf-8") as file:
            self.hold(file.read().split("```")[1].replace("python", "", 1), 8)
