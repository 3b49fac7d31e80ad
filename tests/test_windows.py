"""Point 6: window_events and sounding_events."""

import random
import unittest
from fractions import Fraction

from cyclebeat.events import sounding_events, window_events
from tests.oracle import as_pair, as_pairs, longest, sounding_of, span_of, window_of
from tests.trees import canonical, valid_tree

HUGE = 10 ** 18


def random_moment(rng, tree, last=HUGE):
    """Return a time, often one at which an event of a tree starts or ends."""
    cycle = rng.choice((0, 0, rng.randrange(1, 30), HUGE - rng.randrange(1, 60)))
    events = span_of(tree, cycle, cycle + 1)
    if events and rng.random() < 0.5:
        start, length, _ = rng.choice(events)
        moment = start + rng.choice((0, 0, length, length / 2))
    else:
        divisor = rng.choice((1, 2, 3, 4, 5, 7, 16, 64))
        moment = cycle + Fraction(rng.randrange(divisor), divisor)
    return min(moment, Fraction(last))


class RandomWindowTest(unittest.TestCase):
    def check(self, tree, start, end):
        expected = as_pairs(window_of(tree, start, end))
        self.assertEqual(window_events(canonical(tree), as_pair(start), as_pair(end)), expected, (tree, start, end))

    def test_windows(self):
        rng = random.Random(11)
        for _ in range(900):
            tree = valid_tree(rng, rng.randint(1, 12), 12, 6, 8)
            start = random_moment(rng, tree)
            width = Fraction(rng.randrange(0, 25), rng.choice((1, 2, 3, 5, 12)))
            self.check(tree, start, min(start + min(width, 2), Fraction(HUGE)))

    def test_windows_between_events(self):
        rng = random.Random(12)
        for _ in range(600):
            tree = valid_tree(rng, rng.randint(2, 9), 6, 4, 8)
            cycle = rng.choice((0, 3, HUGE - 5))
            times = sorted({event[0] for event in span_of(tree, cycle, cycle + 2)} | {Fraction(cycle)})
            start = rng.choice(times)
            self.check(tree, start, rng.choice([time for time in times if time >= start]))

    def test_wide_windows(self):
        rng = random.Random(13)
        for _ in range(30):
            tree = valid_tree(rng, 6, 6, 4, 8)
            start = Fraction(rng.randrange(0, 100), 7)
            self.check(tree, start, start + 20)
            self.check(tree, Fraction(HUGE) - 20, Fraction(HUGE))


class RandomSoundingTest(unittest.TestCase):
    def check(self, tree, moment):
        expected = as_pairs(sounding_of(tree, moment))
        self.assertEqual(sounding_events(canonical(tree), as_pair(moment)), expected, (tree, moment))

    def random_tree(self, rng, units, most):
        while True:
            tree = valid_tree(rng, units, 12, rng.choice((2, 4, 9)), 8)
            if longest(tree) <= most:
                return tree

    def test_moments(self):
        rng = random.Random(14)
        for _ in range(700):
            tree = self.random_tree(rng, rng.randint(1, 14), 20)
            self.check(tree, random_moment(rng, tree))

    def test_events_that_last_long(self):
        rng = random.Random(15)
        many = 0
        while many < 60:
            tree = self.random_tree(rng, rng.randint(1, 6), 400)
            if longest(tree) >= 20:
                many += 1
                self.check(tree, random_moment(rng, tree))
                self.check(tree, Fraction(0))

    def test_around_long_events(self):
        slow = ("slow", 9, ("slow", 8, ("word", "a")))
        around = [
            ("seq", (slow, ("word", "b"), ("rest",))), ("seq", (("word", "b"), slow)),
            ("turn", (slow, slow, ("rest",))), ("turn", (("rest",), slow)), ("stack", (slow, slow)),
            ("late", 2, 3, slow), ("mirror", slow), ("mirror", ("late", 1, 3, slow)), ("each", 6, slow, ("rest",)),
            ("each", 5, ("rest",), slow),
            ("fast", 5, slow), ("fast", 5, ("seq", (("rest",), slow))), ("slow", 2, ("seq", (("rest",), slow))),
            ("seq", (("rest",), ("turn", (("rest",), ("late", 3, 4, ("seq", (("rest",), slow))))))),
            ("turn", (("rest",), ("seq", (("rest",), ("mirror", ("late", 3, 4, slow)))))),
        ]
        rng = random.Random(16)
        for tree in around:
            for _ in range(25):
                cycle = rng.choice((0, 1, rng.randrange(200), HUGE - rng.randrange(1, 200)))
                self.check(tree, cycle + Fraction(rng.randrange(12), 12))


class WindowTest(unittest.TestCase):
    def test_ends(self):
        self.assertEqual(window_events("a", (0, 1), (0, 1)), [])
        self.assertEqual(window_events("a", (1, 1), (1, 1)), [])
        self.assertEqual(window_events("a", (1, 2), (1, 2)), [])
        self.assertEqual(window_events("a", (0, 1), (1, 1)), [((0, 1), (1, 1), "a")])
        self.assertEqual(window_events("a", (0, 1), (1000001, 1000000)), [((0, 1), (1, 1), "a"), ((1, 1), (1, 1), "a")])
        self.assertEqual(window_events("a", (1, 10 ** 30), (1, 1)), [])
        self.assertEqual(window_events("a", (1, 10 ** 30), (10 ** 30 + 1, 10 ** 30)), [((1, 1), (1, 1), "a")])

    def test_the_last_times(self):
        self.assertEqual(window_events("a", (HUGE, 1), (HUGE, 1)), [])
        self.assertEqual(window_events("(a b)", (2 * HUGE - 1, 2), (HUGE, 1)), [((2 * HUGE - 1, 2), (1, 2), "b")])

    def test_twenty_cycles(self):
        events = [((at, 1), (1, 1), "a") for at in range(20)]
        self.assertEqual(window_events("a", (0, 1), (20, 1)), events)
        events = window_events("{a b}", (1, 3), (61, 3))
        self.assertEqual([event[0] for event in events], [(at, 1) for at in range(1, 21)])

    def test_events_that_started_before_are_left_out(self):
        self.assertEqual(window_events("a:4", (1, 1), (4, 1)), [])
        self.assertEqual(window_events("a:4", (1, 1), (9, 2)), [((4, 1), (4, 1), "a")])

    def test_sorted_by_time_length_and_word(self):
        self.assertEqual(window_events("[(b a) + c + a:2 + a]", (1, 2), (2, 1)), [
            ((1, 2), (1, 2), "a"), ((1, 1), (1, 2), "b"), ((1, 1), (1, 1), "a"), ((1, 1), (1, 1), "c"),
            ((3, 2), (1, 2), "a")])

    def test_returned_lists_are_new(self):
        first = window_events("(a b)", (0, 1), (1, 1))
        kept = list(first)
        first.reverse()
        first.pop()
        self.assertEqual(window_events("(a b)", (0, 1), (1, 1)), kept)


class SoundingTest(unittest.TestCase):
    def test_starts_and_ends(self):
        self.assertEqual(sounding_events("(a b)", (0, 1)), [((0, 1), (1, 2), "a")])
        self.assertEqual(sounding_events("(a b)", (49, 100)), [((0, 1), (1, 2), "a")])
        self.assertEqual(sounding_events("(a b)", (1, 2)), [((1, 2), (1, 2), "b")])
        self.assertEqual(sounding_events("(a _)", (1, 2)), [])
        self.assertEqual(sounding_events("a", (HUGE, 1)), [((HUGE, 1), (1, 1), "a")])

    def test_before_the_time_0(self):
        self.assertEqual(sounding_events("late(1/3, a)", (0, 1)), [((-2, 3), (1, 1), "a")])
        self.assertEqual(sounding_events("late(1/3, a)", (1, 3)), [((1, 3), (1, 1), "a")])
        self.assertEqual(sounding_events("late(1/3, a:4)", (0, 1)), [((-11, 3), (4, 1), "a")])
        self.assertEqual(sounding_events("(_ a:4)", (0, 1)), [])
        self.assertEqual(sounding_events("(_ a:4)", (1, 1)), [((1, 2), (2, 1), "a")])
        self.assertEqual(sounding_events("(_ late(1/2, a:4))", (0, 1)), [])
        self.assertEqual(sounding_events("(_ (_ late(1/2, a)))", (0, 1)), [((-1, 8), (1, 4), "a")])
        self.assertEqual(sounding_events("{_ late(1/2, a:4)}", (0, 1)), [])
        self.assertEqual(sounding_events("each(4, _, {_ _ _ (_ (_ a:4)):2}):8", (0, 1)), [])
        self.assertEqual(sounding_events("[late(1/2, a) + late(1/4, a:2) + b]", (0, 1)), [
            ((-7, 4), (2, 1), "a"), ((-1, 2), (1, 1), "a"), ((0, 1), (1, 1), "b")])

    def test_very_long_events(self):
        slow = "a" + ":16" * 600
        self.assertEqual(sounding_events(slow, (HUGE, 1)), [((0, 1), (16 ** 600, 1), "a")])
        self.assertEqual(sounding_events("(b " + slow + ")", (HUGE, 1)), [
            ((1, 2), (16 ** 600 // 2, 1), "a"), ((HUGE, 1), (1, 2), "b")])
        self.assertEqual(sounding_events("late(1/2, " + slow + ")", (0, 1)), [
            ((1 - 2 * 16 ** 600, 2), (16 ** 600, 1), "a")])
        slow = "a" + ":16" * 10
        for pattern, start, length in (
                ("{_ %s}", 16 ** 10 * 2 * 4 + 1, 16 ** 10), ("mirror(%s)", 16 ** 10 * 7, 16 ** 10),
                ("each(16, %s, _)", 16 ** 10 * 9, 16 ** 10), ("%s^4:4", 16 ** 10 * 5, 16 ** 10)):
            for inside in (0, 1, length // 2, length - 1):
                events = sounding_events(pattern % slow, (start + inside, 1))
                self.assertEqual(events, [((start, 1), (length, 1), "a")], (pattern, inside))
            self.assertNotIn(((start, 1), (length, 1), "a"), sounding_events(pattern % slow, (start + length, 1)))
            self.assertNotIn(((start, 1), (length, 1), "a"), sounding_events(pattern % slow, (start - 1, 1)))

    def test_overlapping_events_of_one_item(self):
        self.assertEqual(sounding_events("(a late(1/2, a))", (9, 8)), [((3, 4), (1, 2), "a"), ((1, 1), (1, 2), "a")])
        self.assertEqual(sounding_events("(a late(1/2, a))", (5, 4)), [((1, 1), (1, 2), "a")])

    def test_moments_between_steps(self):
        self.assertEqual(sounding_events("(a b)", (10 ** 30 + 1, 2 * 10 ** 30)), [((1, 2), (1, 2), "b")])
        self.assertEqual(sounding_events("(a b)", (10 ** 30 - 1, 2 * 10 ** 30)), [((0, 1), (1, 2), "a")])

    def test_returned_lists_are_new(self):
        first = sounding_events("[a + b]", (1, 2))
        kept = list(first)
        first.clear()
        self.assertEqual(sounding_events("[a + b]", (1, 2)), kept)


if __name__ == "__main__":
    unittest.main()
