"""The examples of the document, as they stand there."""

import doctest
import os
import unittest

VALUES = '''
>>> from anyworker.values import answer, cell, number, passed, put, when
>>> asked = (cell("n") * 2 + passed()).rest(5)
>>> [asked.names, asked.at({"n": 4}, 3), (~cell("n")).at({"n": 0}, 0), (cell("n") & 3).at({"n": 2}, 0), cell("n").less(passed()).at({"n": 1}, 2), cell("n") + 1 == cell("n") + number(1), 1 + cell("n") == cell("n") + 1]
[['n'], 1, 1, 1, 1, True, False]
>>> step = when(cell("b").same(0), [put("a", cell("c"))])
>>> [step.names, step == when(cell("b").same(number(0)), [put("a", cell("c"))], []), answer(3) == answer(number(3))]
[['a', 'b', 'c'], True, True]
'''

SERVICES = '''
>>> from anyworker.services import Service, forgetting, sharing
>>> from anyworker.values import answer, cell, passed, put, when
>>> fresh = when(~cell("k").same(cell("c")), [put("m", cell("c")), put("k", cell("c"))])
>>> memo = Service([("m", 2), ("k", 2)], [("c", 2)], [("put", 2, [put("c", passed())]), ("look", 1, [fresh, answer(cell("m"))])])
>>> tally = Service([("n", 3)], [], [("add", 1, [put("n", cell("n") + 1), answer(cell("n"))])])
>>> [memo.own, memo.kinds, len(memo), sharing(memo, ["k"]).common, (memo | tally).own, (memo | tally)["add"] == tally["add"], forgetting(tally, ["n"])["add"][0] == put("n", 0)]
[[('m', 2), ('k', 2)], [('put', 2), ('look', 1)], 2, [('c', 2), ('k', 2)], [('m', 2), ('k', 2), ('n', 3)], True, True]
'''

MACHINES = '''
>>> from anyworker.machines import first_unlike, forgettable, machine, run
>>> from anyworker.services import Service, forgetting
>>> from anyworker.values import answer, cell, passed, put, when
>>> fresh = when(~cell("k").same(cell("c")), [put("m", cell("c")), put("k", cell("c"))])
>>> memo = Service([("m", 2), ("k", 2)], [("c", 2)], [("put", 2, [put("c", passed())]), ("look", 1, [fresh, answer(cell("m"))])])
>>> tally = Service([("n", 3)], [], [("add", 1, [put("n", cell("n") + 1), answer(cell("n"))])])
>>> [run(memo, [("put", 1), ("look", 0), ("put", 0), ("look", 0)]), machine(tally), machine(memo), first_unlike(tally, forgetting(tally, ["n"])), forgettable(memo), forgettable(tally)]
[[None, 1, None, 0], [[(1, 1)], [(2, 2)], [(0, 0)]], [[(None, 0), (None, 1), (0, 0)], [(None, 0), (None, 1), (1, 1)]], [('add', 0), ('add', 0)], [['m', 'k']], [[]]]
'''

WORKERS = '''
>>> from anyworker.services import Service, sharing
>>> from anyworker.values import answer, cell, passed, put, when
>>> from anyworker.workers import bound_parting, breaking, closed, fewest_missed, holds, judge, least_bindings, least_sharings, mixed_parting, parting, serve
>>> fresh = when(~cell("k").same(cell("c")), [put("m", cell("c")), put("k", cell("c"))])
>>> memo = Service([("m", 2), ("k", 2)], [("c", 2)], [("put", 2, [put("c", passed())]), ("look", 1, [fresh, answer(cell("m"))])])
>>> tally = Service([("n", 3)], [], [("add", 1, [put("n", cell("n") + 1), answer(cell("n"))])])
>>> [parting(memo), parting(sharing(memo, ["k"])), parting(tally), serve(tally, [("add", 0, 0), ("add", 0, 4)]), holds(tally, [("add", 0, 3), ("add", 0, 3)]), fewest_missed(tally), least_bindings(tally), bound_parting(tally, ["add"])]
[None, [('put', 1, 0), ('look', 0, 0), ('look', 0, 1)], [('add', 0, 0), ('add', 0, 1)], [(1, []), (1, [])], True, 1, [['add']], None]
>>> [least_sharings(memo), breaking(memo), least_sharings(tally), judge(memo, closed(memo)), len(closed(memo)), mixed_parting(tally, tally), mixed_parting(memo, memo)]
[[[]], [([], 'm'), ([], 'k')], [['n']], True, 8, [('add', 0, 0), ('add', 0, 1)], None]
'''

FLEETS = '''
>>> from anyworker.fleets import BoundFleet, Fleet
>>> from anyworker.services import Service
>>> from anyworker.values import answer, cell, passed, put
>>> tally = Service([("n", 3)], [("c", 4)], [("add", 1, [put("n", cell("n") + 1), answer(cell("n"))]), ("set", 4, [put("c", passed())])])
>>> fleet = Fleet(tally)
>>> [fleet("add"), fleet("add", worker=2), fleet("set", 3), fleet.is_true, fleet[2], fleet.one, fleet.store, fleet.row(), fleet.undo(), len(fleet), fleet.store]
[1, 1, None, False, [1], [2], [3], [('add', 0, 0), ('add', 0, 2), ('set', 3, 0)], None, 2, [0]]
>>> [BoundFleet(tally, ["set", "set"]).bound, Fleet(tally) == Fleet(tally), Fleet(tally) == BoundFleet(tally, [])]
[['set'], True, False]
'''

TEXTS = '''
>>> from anyworker.readings import read_service, read_steps, read_value
>>> from anyworker.services import Service
>>> from anyworker.texts import show_service, show_steps, show_value
>>> from anyworker.values import answer, cell, passed, put, when
>>> [show_value(~(cell("a") + passed()).less(-3)), show_steps([when(cell("a"), [put("b", 1), answer(0)])]), read_value("((a mod 2) | ?)") == cell("a").rest(2) | passed(), read_steps("") == []]
['~((a + ?) < -3)', 'when a {put b 1; answer 0} else {}', True, True]
>>> show_service(Service([("n", 3)], [], [("add", 1, [put("n", cell("n") + 1)]), ("rest", 2, [])]))
'own n:3; common; kind add:1 {put n (n + 1)}; kind rest:2 {}'
'''


class Examples(unittest.TestCase):
    def hold(self, text, many):
        test = doctest.DocTestParser().get_doctest(text, {}, "example", None, 0)
        wrong = []
        found = doctest.DocTestRunner(verbose=False).run(test, out=wrong.append)
        self.assertEqual((found.failed, found.attempted), (0, many), "".join(wrong))

    def test_values(self):
        self.hold(VALUES, 5)

    def test_services(self):
        self.hold(SERVICES, 6)

    def test_machines(self):
        self.hold(MACHINES, 7)

    def test_workers(self):
        self.hold(WORKERS, 8)

    def test_fleets(self):
        self.hold(FLEETS, 7)

    def test_texts(self):
        self.hold(TEXTS, 6)

    def test_readme(self):
        path = os.path.join(os.path.dirname(os.path.dirname(os.path.abspath(__file__))), "README.md")
        with open(path, encoding="utf-8") as file:
            parts = file.read().split("```python")[1:]
        self.hold("".join(part.split("```")[0] for part in parts), 21)
