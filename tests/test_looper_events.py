"""Point 14: the events of a looper's layers, and the pattern of all of them."""

import random
import unittest

from cyclebeat.events import cycle_events
from cyclebeat.formatter import format_pattern
from cyclebeat.looper import Looper
from tests.faults import INVALID_CYCLE, STRANGE, check_fault, fault_of
from tests.judging import fault_of_text
from tests.loops import (Model, large_pattern, looper_after, model_after, outcome, random_operation, random_pattern,
                         random_time)
from tests.oracle import as_fractions, as_pairs

HUGE = 10 ** 18


def some_cycles(rng):
    return [0, 1, HUGE, rng.randrange(2, 40), rng.randrange(2, 40), HUGE - rng.randrange(1, 60)]


def random_layers(rng, pattern_of=random_pattern):
    """Return the operations that make up to three layers."""
    operations = []
    for name in rng.sample(("a", "b", "late", "kick"), rng.randint(0, 3)):
        operations.append(("put", name, pattern_of(rng)))
        if rng.random() < 0.6:
            operations.append(("nudge", name, random_time(rng)))
        if rng.random() < 0.25:
            operations.append(("mute", name))
    return operations


class EventTest(unittest.TestCase):
    def setUp(self):
        self.rng = random.Random(142)
        self.looper = Looper()

    def test_random_layers(self):
        for _ in range(300):
            operations = random_layers(self.rng, self.rng.choice((random_pattern,) * 5 + (large_pattern,)))
            looper, model = looper_after(operations), model_after(operations)
            for cycle in some_cycles(self.rng):
                self.assertEqual(looper.events(cycle), model.events(cycle), (looper.layers(), cycle))

    def test_random_operations(self):
        for _ in range(150):
            looper, model = Looper(), Model()
            for _ in range(self.rng.randint(1, 16)):
                operation = random_operation(self.rng)
                outcome(looper, operation)
                model.outcome(operation)
                cycle = self.rng.choice(some_cycles(self.rng))
                self.assertEqual(looper.events(cycle), model.events(cycle), (looper.layers(), cycle))

    def test_layers_in_the_order_of_their_names(self):
        self.looper.put("b", "(y x)")
        self.looper.put("a", "(_ z)")
        self.looper.put("aa", "[b + a]")
        self.assertEqual(self.looper.events(5), [
            ((1, 2), (1, 2), "z", "a"), ((0, 1), (1, 1), "a", "aa"), ((0, 1), (1, 1), "b", "aa"),
            ((0, 1), (1, 2), "y", "b"), ((1, 2), (1, 2), "x", "b")])

    def test_shifted_layers_are_sorted(self):
        self.looper.put("a", "{(x y) (z _)}")
        self.looper.nudge("a", (2, 3))
        self.assertEqual(self.looper.events(0), [((2, 3), (1, 2), "x", "a")])
        self.assertEqual(self.looper.events(1), [((1, 6), (1, 2), "y", "a"), ((2, 3), (1, 2), "z", "a")])

    def test_what_started_before_the_first_cycle(self):
        self.looper.put("a", "{a b c}")
        self.looper.nudge("a", (1, 64))
        self.assertEqual([event[2] for event in self.looper.events(0)], ["a"])
        self.looper.put("a", "(_ {a b c})")
        self.looper.nudge("a", (1, 2))
        self.assertEqual(self.looper.events(0), [((0, 1), (1, 2), "c", "a")])

    def test_muted_layers(self):
        self.looper.put("a", "x")
        self.looper.put("b", "y")
        self.looper.mute("a")
        self.assertEqual(self.looper.events(0), [((0, 1), (1, 1), "y", "b")])
        self.looper.mute("b")
        self.assertEqual(self.looper.events(0), [])
        self.looper.mute("a")
        self.assertEqual(self.looper.events(0), [((0, 1), (1, 1), "x", "a")])

    def test_cycles(self):
        for pattern in (None, "a"):
            if pattern is not None:
                self.looper.put("a", pattern)
            for value in STRANGE + [(0, 1), [5], 10 ** 30, -1]:
                self.assertEqual(fault_of(self.looper.events, value), INVALID_CYCLE, value)
            for cycle in (0, 1, HUGE - 1, HUGE):
                self.assertEqual(len(self.looper.events(cycle)), 0 if pattern is None else 1)

    def test_shifted_layers_at_the_limits(self):
        for pattern in ("mirror(" * 11 + "a" + ")" * 11, "(" + "a " * 59 + ")", "(a b)^16^15"):
            self.looper.put("a", pattern)
            self.looper.nudge("a", (63, 64))
            expected = cycle_events(pattern, 0)
            self.assertEqual(len(self.looper.events(7)), len(expected))
            self.assertEqual(sorted(event[1:3] for event in self.looper.events(7)),
                             sorted(event[1:] for event in expected))

    def test_returned_lists_are_new(self):
        for _ in range(50):
            looper = looper_after(random_layers(self.rng))
            first = looper.events(3)
            kept = list(first)
            first.append(None)
            first.reverse()
            self.assertEqual(looper.events(3), kept)


class MixTest(unittest.TestCase):
    def setUp(self):
        self.rng = random.Random(143)
        self.looper = Looper()

    def texts(self, looper):
        """Return the texts of all layers that are not muted, within a `late` if they are shifted."""
        return [pattern if time == (0, 1) else "late(" + str(time[0]) + "/" + str(time[1]) + ", " + pattern + ")"
                for _, pattern, time, muted in looper.layers() if not muted]

    def check(self, looper):
        """Check a mix, and return whether there is one."""
        texts = self.texts(looper)
        if not texts:
            self.assertEqual(looper.mix(), "_")
            return True
        whole = "[" + " + ".join(texts) + "]"
        fault = fault_of(looper.mix)
        self.assertEqual(fault, fault_of_text(whole), whole)
        self.assertEqual(fault, fault_of(format_pattern, whole), whole)
        if fault is not None:
            return False
        for cycle in some_cycles(self.rng):
            events = as_pairs(sorted(as_fractions([event[:3] for event in looper.events(cycle)])))
            self.assertEqual(cycle_events(looper.mix(), cycle), events, whole)
        return True

    def test_random_operations(self):
        for _ in range(250):
            self.check(looper_after([random_operation(self.rng) for _ in range(self.rng.randint(0, 16))]))

    def test_layers_that_are_too_many_together(self):
        seen = {True: 0, False: 0}
        for _ in range(200):
            looper = looper_after(random_layers(self.rng, large_pattern))
            state = (looper.layers(), looper.operations())
            seen[self.check(looper)] += 1
            self.assertEqual((looper.layers(), looper.operations()), state)
        self.assertTrue(min(seen.values()) > 20, seen)

    def test_no_layers(self):
        self.assertEqual(self.looper.mix(), "_")
        self.looper.put("a", "x")
        self.looper.mute("a")
        self.assertEqual(self.looper.mix(), "_")

    def test_too_many_units(self):
        self.looper.put("a", "(" + "a " * 29 + ")")
        self.looper.put("b", "(" + "b " * 28 + ")")
        self.assertEqual(len(cycle_events(self.looper.mix(), 0)), 57)
        self.looper.put("c", "x")
        self.assertEqual(fault_of(self.looper.mix), check_fault("size", 1 + 60 + 3 + 58 + 3))
        self.looper.mute("c")
        self.assertIsNone(fault_of(self.looper.mix))
        self.looper.nudge("a", (1, 2))
        self.assertEqual(fault_of(self.looper.mix), check_fault("size", 1 + 71 + 3 + 1 + 27 * 2))

    def test_a_single_layer(self):
        self.looper.put("a", "(" + "a " * 58 + ")")
        self.assertIsNone(fault_of(self.looper.mix))
        self.looper.put("a", "(" + "a " * 59 + ")")
        self.assertEqual(fault_of(self.looper.mix), check_fault("size", 1 + 1 + 58 * 2))

    def test_too_many_levels(self):
        self.looper.put("a", "(" * 10 + "a" + ")" * 10)
        self.assertIsNone(fault_of(self.looper.mix))
        self.looper.nudge("a", (1, 2))
        self.assertEqual(fault_of(self.looper.mix), check_fault("depth", 1 + 10 + 10))
        self.looper.nudge("a", (0, 1))
        self.assertIsNone(fault_of(self.looper.mix))

    def test_too_many_events(self):
        self.looper.put("a", "a^16^15")
        self.looper.put("b", "b^16^16")
        self.assertEqual(len(cycle_events(self.looper.mix(), 0)), 496)
        self.looper.put("c", "c^5")
        self.assertEqual(fault_of(self.looper.mix), check_fault("events", 0))
        self.looper.put("c", "c^4")
        self.assertIsNone(fault_of(self.looper.mix))

    def test_the_layers_may_be_mixed_without_the_muted_ones(self):
        for name in ("a", "b", "c"):
            self.looper.put(name, "(" + "a " * 40 + ")")
            self.looper.mute(name)
        self.looper.mute("b")
        self.assertEqual(cycle_events(self.looper.mix(), 0), cycle_events("a^10^4", 0))


if __name__ == "__main__":
    unittest.main()
