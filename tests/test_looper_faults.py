"""Points 1, 14 and 15: what a looper refuses, in which order, and that nothing changes then."""

import random
import unittest

from cyclebeat.looper import Looper
from tests.faults import (INVALID_CYCLE, INVALID_NAME, INVALID_TIME, STRANGE, UNKNOWN_NAME, check_fault, fault_of,
                          syntax_fault)
from tests.judging import fault_of_pattern
from tests.loops import (NAMES, WRONG_NAMES, WRONG_PATTERNS, WRONG_TIMES, outcome, random_pattern, random_time,
                         successful_operations, whole_state)


class FaultTest(unittest.TestCase):
    def setUp(self):
        self.rng = random.Random(144)
        self.looper = Looper()
        for operation in (("put", "a", "(x y)"), ("put", "late", "z"), ("mute", "late"), ("undo",), ("save", "s")):
            outcome(self.looper, operation)
        self.state = whole_state(self.looper)

    def assert_fault(self, operation, fault):
        self.assertEqual(outcome(self.looper, operation), (None, fault), operation)
        self.assertEqual(whole_state(self.looper), self.state, operation)

    def test_names(self):
        for name in WRONG_NAMES:
            self.assert_fault(("put", name, "x"), INVALID_NAME)
            self.assert_fault(("save", name), INVALID_NAME)
            for word in ("remove", "mute", "restore"):
                self.assert_fault((word, name), UNKNOWN_NAME)
            self.assert_fault(("nudge", name, (0, 1)), UNKNOWN_NAME)

    def test_strange_values(self):
        for value in [value for value in STRANGE if value != "a"]:
            self.assert_fault(("put", value, "x"), INVALID_NAME)
            self.assert_fault(("save", value), INVALID_NAME)
            self.assert_fault(("restore", value), UNKNOWN_NAME)
            self.assert_fault(("mute", value), UNKNOWN_NAME)
            self.assert_fault(("remove", value), UNKNOWN_NAME)
            if value != (0, 1):
                self.assert_fault(("nudge", "a", value), INVALID_TIME)
            self.assert_fault(("events", value), INVALID_CYCLE)
            if not isinstance(value, str):
                self.assert_fault(("put", "a", value), syntax_fault(0))

    def test_unknown_names(self):
        for name in ("b", "each", "z", "abcdefgh", "aa", "s"):
            for word in ("remove", "mute"):
                self.assert_fault((word, name), UNKNOWN_NAME)
            self.assert_fault(("nudge", name, (1, 2)), UNKNOWN_NAME)
        for name in ("a", "late", "t"):
            self.assert_fault(("restore", name), UNKNOWN_NAME)

    def test_names_of_removed_and_undone_layers(self):
        looper = Looper()
        looper.put("a", "x")
        looper.remove("a")
        looper.put("b", "x")
        looper.undo()
        for name in ("a", "b"):
            self.assertEqual(fault_of(looper.mute, name), UNKNOWN_NAME)
            self.assertEqual(fault_of(looper.nudge, name, (0, 1)), UNKNOWN_NAME)
            self.assertEqual(fault_of(looper.remove, name), UNKNOWN_NAME)

    def test_patterns(self):
        for pattern in WRONG_PATTERNS:
            self.assertIsNotNone(fault_of_pattern(pattern), pattern)
            for name in ("a", "b"):
                self.assert_fault(("put", name, pattern), fault_of_pattern(pattern))

    def test_times(self):
        for time in WRONG_TIMES:
            self.assert_fault(("nudge", "a", time), INVALID_TIME)
            self.assert_fault(("nudge", "late", time), INVALID_TIME)

    def test_the_order_of_faults(self):
        for pattern in (*WRONG_PATTERNS, "a"):
            self.assert_fault(("put", self.rng.choice(WRONG_NAMES), pattern), INVALID_NAME)
        for time in (*WRONG_TIMES, (0, 1)):
            for name in (self.rng.choice(WRONG_NAMES), "b"):
                self.assert_fault(("nudge", name, time), UNKNOWN_NAME)
        self.assert_fault(("put", "a", "a^0 b"), syntax_fault(4))
        self.assert_fault(("put", "b", "a^17^0"), check_fault("number", 2))

    def test_random_faults_of_random_loopers(self):
        for _ in range(100):
            self.looper = Looper()
            for operation in successful_operations(self.rng, self.rng.randint(0, 10)):
                outcome(self.looper, operation)
            self.state = whole_state(self.looper)
            known = [layer[0] for layer in self.looper.layers()]
            for _ in range(5):
                name, pattern = self.rng.choice(WRONG_NAMES), self.rng.choice(WRONG_PATTERNS)
                time = self.rng.choice(WRONG_TIMES)
                self.assert_fault(("put", name, random_pattern(self.rng)), INVALID_NAME)
                self.assert_fault(("put", self.rng.choice(NAMES), pattern), fault_of_pattern(pattern))
                for name in [name for name in (*NAMES, "x") if name not in known]:
                    self.assert_fault((self.rng.choice(("mute", "remove")), name), UNKNOWN_NAME)
                    self.assert_fault(("nudge", name, random_time(self.rng)), UNKNOWN_NAME)
                for name in known:
                    self.assert_fault(("nudge", name, time), INVALID_TIME)

    def test_times_at_the_limits(self):
        for time in ((0, 1), (1, 64), (63, 64), (62, 63), (1, 2)):
            self.assertIsNone(fault_of(self.looper.nudge, "a", time))
            self.assertEqual(self.looper.layers()[0], ("a", "(x y)", time, False))

    def test_cycles_at_the_limits(self):
        for cycle in (-1, 10 ** 18 + 1):
            self.assert_fault(("events", cycle), INVALID_CYCLE)
        for cycle in (0, 10 ** 18):
            self.assertEqual([event[2] for event in self.looper.events(cycle)], ["x", "y", "z"])

    def test_methods_have_the_argument_names_of_the_interface(self):
        looper = Looper()
        self.assertIsNone(looper.put(name="a", pattern="x"))
        self.assertIsNone(looper.nudge(name="a", time=(1, 2)))
        self.assertIs(looper.mute(name="a"), True)
        self.assertEqual(looper.events(cycle=0), [])
        self.assertIsNone(looper.save(name="s"))
        self.assertIsNone(looper.remove(name="a"))
        self.assertIsNone(looper.restore(name="s"))
        self.assertEqual(looper.batch(operations=[("undo",)]), [True])


if __name__ == "__main__":
    unittest.main()
