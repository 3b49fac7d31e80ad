"""Point 14: layers, and the operations that change them."""

import random
import unittest

from cyclebeat.looper import Looper
from tests.faults import INVALID_NAME, UNKNOWN_NAME, fault_of
from tests.loops import Model, outcome, random_operation, whole_state

METHODS = ("put", "remove", "mute", "nudge", "undo", "redo", "events", "mix", "layers", "operations", "save", "restore",
           "batch")


class RandomLooperTest(unittest.TestCase):
    def test_random_operations(self):
        rng = random.Random(140)
        seen = {}
        for _ in range(400):
            looper, model = Looper(), Model()
            done = []
            for _ in range(16):
                operation = random_operation(rng, 0.15)
                done.append(operation)
                expected = model.outcome(operation)
                self.assertEqual(outcome(looper, operation), expected, done)
                self.assertEqual(looper.layers(), model.layers(), done)
                self.assertEqual(looper.operations(), model.operations(), done)
                key = (operation[0], expected[1][0] if expected[1] else expected[0])
                seen[key] = seen.get(key, 0) + 1
            self.assertEqual(whole_state(looper), whole_state(model), done)
        for key in (("put", None), ("put", "InvalidName"), ("put", "SyntaxFault"), ("put", "CheckFault"),
                    ("remove", None), ("remove", "UnknownName"), ("mute", True), ("mute", False),
                    ("mute", "UnknownName"), ("nudge", None), ("nudge", "UnknownName"), ("nudge", "InvalidTime"),
                    ("undo", True), ("undo", False), ("redo", True), ("redo", False)):
            self.assertGreater(seen.get(key, 0), 10, key)

    def test_the_state_after_each_operation(self):
        rng = random.Random(141)
        for _ in range(60):
            looper, model = Looper(), Model()
            for _ in range(16):
                operation = random_operation(rng, 0.1, ("a", "b"))
                self.assertEqual(outcome(looper, operation), model.outcome(operation))
                self.assertEqual(whole_state(looper), whole_state(model), operation)


class LooperTest(unittest.TestCase):
    def setUp(self):
        self.looper = Looper()

    def test_a_new_looper(self):
        self.assertEqual(whole_state(self.looper), [([], [])] * 3 + [[], []])
        self.assertEqual([self.looper.events(0), self.looper.mix()], [[], "_"])
        self.assertIs(self.looper.undo(), False)
        self.assertIs(self.looper.redo(), False)

    def test_put(self):
        self.assertIsNone(self.looper.put("kick", "( a  b )"))
        self.assertEqual(self.looper.layers(), [("kick", "( a  b )", (0, 1), False)])
        self.assertIsNone(self.looper.put("a", " late(2/4,x) "))
        self.assertEqual(self.looper.layers(), [("a", " late(2/4,x) ", (0, 1), False),
                                                ("kick", "( a  b )", (0, 1), False)])

    def test_put_on_another_layer(self):
        self.looper.put("a", "x")
        self.looper.mute("a")
        self.looper.nudge("a", (1, 3))
        self.looper.put("b", "x")
        self.looper.put("a", "y")
        self.assertEqual(self.looper.layers(), [("a", "y", (1, 3), True), ("b", "x", (0, 1), False)])

    def test_put_after_remove(self):
        self.looper.put("a", "x")
        self.looper.mute("a")
        self.looper.nudge("a", (1, 3))
        self.assertIsNone(self.looper.remove("a"))
        self.assertEqual(self.looper.layers(), [])
        self.looper.put("a", "y")
        self.assertEqual(self.looper.layers(), [("a", "y", (0, 1), False)])

    def test_names_that_are_keywords(self):
        for name in ("late", "each", "mirror", "abcdefgh", "z"):
            self.assertIsNone(self.looper.put(name, "a"))
        self.assertEqual([layer[0] for layer in self.looper.layers()], ["abcdefgh", "each", "late", "mirror", "z"])

    def test_mute(self):
        self.looper.put("a", "x")
        self.assertIs(self.looper.mute("a"), True)
        self.assertIs(self.looper.mute("a"), False)
        self.assertIs(self.looper.mute("a"), True)
        self.assertEqual(self.looper.layers(), [("a", "x", (0, 1), True)])

    def test_nudge_replaces_the_shift(self):
        self.looper.put("a", "x")
        for time in ((1, 4), (63, 64), (1, 4), (0, 1)):
            self.assertIsNone(self.looper.nudge("a", time))
            self.assertEqual(self.looper.layers(), [("a", "x", time, False)])

    def test_operations_that_change_nothing_count(self):
        self.looper.put("a", "x")
        self.looper.put("a", "x")
        self.looper.nudge("a", (0, 1))
        self.assertEqual(self.looper.operations(), ["put", "put", "nudge"])
        self.assertIs(self.looper.undo(), True)
        self.assertEqual(self.looper.operations(), ["put", "put"])

    def test_undo_and_redo(self):
        self.looper.put("a", "x")
        self.looper.put("b", "y")
        self.looper.mute("a")
        self.assertEqual([self.looper.undo(), self.looper.undo()], [True, True])
        self.assertEqual(self.looper.layers(), [("a", "x", (0, 1), False)])
        self.assertIs(self.looper.redo(), True)
        self.assertEqual(self.looper.operations(), ["put", "put"])
        self.assertIs(self.looper.redo(), True)
        self.assertEqual(self.looper.layers(), [("a", "x", (0, 1), True), ("b", "y", (0, 1), False)])
        self.assertIs(self.looper.redo(), False)

    def test_an_operation_ends_what_redo_would_do(self):
        for operation in (("put", "b", "y"), ("remove", "a"), ("mute", "a"), ("nudge", "a", (1, 2))):
            looper = Looper()
            looper.put("a", "x")
            looper.mute("a")
            looper.undo()
            self.assertIsNone(outcome(looper, operation)[1])
            self.assertIs(looper.redo(), False)
            self.assertEqual(looper.operations(), ["put", operation[0]])

    def test_what_leaves_redo_as_it_is(self):
        self.looper.put("a", "x")
        self.looper.mute("a")
        self.looper.undo()
        for operation in (("put", "A", "x"), ("put", "b", "("), ("remove", "b"), ("mute", "b"), ("nudge", "a", 5),
                          ("nudge", "b", (0, 1)), ("events", 0), ("events", -1), ("mix",), ("layers",), ("operations",),
                          ("save", "s"), ("save", ""), ("restore", "t"), ("batch", []), ("batch", [("mute", "b")]),
                          ("batch", [("mute",)])):
            outcome(self.looper, operation)
            self.assertEqual(whole_state(self.looper)[4], [([("a", "x", (0, 1), True)], ["put", "mute"])], operation)
        self.assertIs(self.looper.redo(), True)

    def test_undoing_each_operation(self):
        self.looper.put("a", "x")
        self.looper.nudge("a", (1, 4))
        before = whole_state(self.looper)[:3]
        for operation in (("put", "a", "y"), ("put", "b", "y"), ("remove", "a"), ("mute", "a"), ("nudge", "a", (0, 1))):
            self.assertIsNone(outcome(self.looper, operation)[1])
            self.assertNotEqual(whole_state(self.looper)[:3], before)
            self.assertIs(self.looper.undo(), True)
            self.assertEqual(whole_state(self.looper)[:3], before, operation)

    def test_many_operations(self):
        for at in range(300):
            self.looper.put("abcdefghijklmnopqrstuvwxyz"[at % 26], "a")
        self.assertEqual([len(self.looper.layers()), len(self.looper.operations())], [26, 300])
        self.assertEqual([self.looper.undo() for _ in range(301)], [True] * 300 + [False])
        self.assertEqual(self.looper.layers(), [])
        self.assertEqual([self.looper.redo() for _ in range(301)], [True] * 300 + [False])
        self.assertEqual([len(self.looper.layers()), len(self.looper.operations())], [26, 300])

    def test_returned_lists_are_new(self):
        self.looper.put("a", "(x y)")
        self.looper.mute("a")
        self.looper.mute("a")
        state = whole_state(self.looper)
        for ask in (self.looper.layers, self.looper.operations, lambda: self.looper.events(0)):
            first = ask()
            kept = list(first)
            self.assertIs(type(first), list)
            first.append(None)
            first.reverse()
            self.assertEqual(ask(), kept)
            first.clear()
            self.assertEqual(ask(), kept)
        self.assertEqual(whole_state(self.looper), state)

    def test_kinds_of_layers(self):
        self.looper.put("a", "(x y)")
        self.looper.mute("a")
        self.assertEqual([type(value) for value in self.looper.layers()[0]], [str, str, tuple, bool])
        self.assertIs(type(self.looper.layers()[0]), tuple)

    def test_the_class_itself_has_all_methods(self):
        for name in METHODS:
            self.assertIn(name, vars(Looper))

    def test_faults_of_an_empty_looper(self):
        self.assertEqual(fault_of(self.looper.put, "", "a"), INVALID_NAME)
        for ask in (self.looper.remove, self.looper.mute, self.looper.restore):
            self.assertEqual(fault_of(ask, "a"), UNKNOWN_NAME)
        self.assertEqual(fault_of(self.looper.nudge, "a", (0, 1)), UNKNOWN_NAME)


if __name__ == "__main__":
    unittest.main()
