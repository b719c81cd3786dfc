import unittest

from anyworker.serving import requests_of, served
from anyworker.services import Service
from anyworker.values import answer, cell, put, when


class Serving(unittest.TestCase):
    def setUp(self):
        self.steps = [when(cell("a"), [put("b", 5)], [put("a", 7)]), answer(cell("a") + cell("b"))]
        self.service = Service([("a", 4)], [("b", 6)], [("go", 2, self.steps), ("nop", 1, [])])

    def test_what_is_passed_stays(self):
        held = {"a": 0, "b": 2}
        self.assertEqual(served(self.service, "go", 1, held), (5, {"a": 3, "b": 2}))
        self.assertEqual(held, {"a": 0, "b": 2})
        told, now = served(self.service, "nop", 0, held)
        self.assertEqual((told, now), (None, held))
        self.assertIsNot(now, held)
        self.assertTrue(self.service["go"] == self.steps)

    def test_order_of_requests(self):
        self.assertEqual(requests_of(self.service), [("go", 0), ("go", 1), ("nop", 0)])
        self.assertEqual(requests_of(Service([("a", 2)], [], [])), [])
