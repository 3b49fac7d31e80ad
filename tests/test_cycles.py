"""Points 5 and 6: cycle_events."""

import random
import unittest
from fractions import Fraction

from cyclebeat.events import cycle_events
from tests.oracle import as_pairs, events_of
from tests.trees import canonical, join_tokens, random_parts, tokens_of, valid_tree

HUGE = 10 ** 18


def some_cycles(rng):
    """Return small cycles, and cycles near the greatest one."""
    return [0, 1, HUGE] + [rng.randrange(2, 40) for _ in range(3)] + [HUGE - rng.randrange(1, 200) for _ in range(2)]


class RandomCycleTest(unittest.TestCase):
    def check(self, tree, cycles, rng):
        text, _ = join_tokens(tokens_of(tree), rng)
        for cycle in cycles:
            self.assertEqual(cycle_events(text, cycle), as_pairs(events_of(tree, cycle)), (text, cycle))

    def test_small_patterns(self):
        rng = random.Random(7)
        for _ in range(1500):
            self.check(valid_tree(rng, rng.randint(1, 8), 12, 5, 6), some_cycles(rng), rng)

    def test_large_patterns(self):
        rng = random.Random(8)
        for _ in range(150):
            self.check(valid_tree(rng, rng.randint(20, 60)), some_cycles(rng)[1:5], rng)

    def test_single_kinds(self):
        rng = random.Random(9)
        for kind in ("seq", "stack", "turn", "mirror", "late", "each", "fast", "slow"):
            for _ in range(40):
                inner = [valid_tree(rng, many, 3, 4, 5) for many in random_parts(rng, 6, 3)]
                tree = {"mirror": (kind, inner[0]), "late": (kind, rng.randrange(7), 7, inner[0]),
                        "each": (kind, rng.randint(1, 4), inner[0], inner[1])}.get(kind, (kind, tuple(inner)))
                if kind in ("fast", "slow"):
                    tree = (kind, rng.randint(1, 5), inner[0])
                self.check(tree, list(range(13)) + [HUGE - at for at in range(5)], rng)


class CycleTest(unittest.TestCase):
    def assert_events(self, pattern, cycle, events):
        expected = as_pairs([(Fraction(start), Fraction(length), word) for start, length, word in events])
        self.assertEqual(cycle_events(pattern, cycle), expected, (pattern, cycle))

    def test_words(self):
        for cycle in (0, 1, 7, HUGE - 1, HUGE):
            self.assert_events("a", cycle, [(0, 1, "a")])
            self.assert_events("abcdefgh", cycle, [(0, 1, "abcdefgh")])
            self.assert_events("_", cycle, [])

    def test_sequences(self):
        self.assert_events("(a _ b)", 5, [(0, "1/3", "a"), ("2/3", "1/3", "b")])
        self.assert_events("(a (b c))", 5, [(0, "1/2", "a"), ("1/2", "1/4", "b"), ("3/4", "1/4", "c")])
        self.assert_events("(a:2 b)", 0, [(0, 1, "a"), ("1/2", "1/2", "b")])
        self.assert_events("(a:2 b)", 1, [("1/2", "1/2", "b")])
        self.assert_events("(a)", 1, [(0, 1, "a")])

    def test_stacks(self):
        self.assert_events("[a + a + _ + (b a)]", 0, [(0, "1/2", "b"), (0, 1, "a"), (0, 1, "a"), ("1/2", "1/2", "a")])
        self.assert_events("[b + a]", 0, [(0, 1, "a"), (0, 1, "b")])

    def test_turns(self):
        self.assert_events("{a b c}", 4, [(0, 1, "b")])
        self.assert_events("{a {b c}}", 1, [(0, 1, "b")])
        self.assert_events("{a {b c}}", 3, [(0, 1, "c")])
        self.assert_events("{a {b c}}", 5, [(0, 1, "b")])
        self.assert_events("{a b c}", HUGE, [(0, 1, "b")])
        self.assert_events("{a:2 b}", 0, [(0, 2, "a")])
        self.assert_events("{a:2 b}", 2, [])

    def test_fast_and_slow(self):
        self.assert_events("{a b}^3", 0, [(0, "1/3", "a"), ("1/3", "1/3", "b"), ("2/3", "1/3", "a")])
        self.assert_events("{a b}^3", 1, [(0, "1/3", "b"), ("1/3", "1/3", "a"), ("2/3", "1/3", "b")])
        self.assert_events("(a b c):2", 0, [(0, "2/3", "a"), ("2/3", "2/3", "b")])
        self.assert_events("(a b c):2", 1, [("1/3", "2/3", "c")])
        self.assert_events("(a b):3^2", 1, [("1/2", "3/4", "a")])
        self.assert_events("a^2:3", 1, [("1/2", "3/2", "a")])
        self.assert_events("a:3^2", 1, [("1/2", "3/2", "a")])

    def test_late(self):
        self.assert_events("late(1/4, (a b))", 0, [("1/4", "1/2", "a"), ("3/4", "1/2", "b")])
        self.assert_events("late(1/2, {a b c})", 0, [("1/2", 1, "a")])
        self.assert_events("late(2/3, {(a b) (c d)})", 0, [("1/6", "1/2", "d"), ("2/3", "1/2", "a")])
        self.assert_events("late(2/3, {(a b) (c d)})", 1, [("1/6", "1/2", "b"), ("2/3", "1/2", "c")])
        self.assert_events("late(0/5, a)", 0, [(0, 1, "a")])
        self.assert_events("late(1/2, (_ {a b c}))", 0, [(0, "1/2", "c")])
        self.assert_events("late(3/4, late(3/4, {a b c d}))", 0, [("1/2", 1, "d")])

    def test_mirror(self):
        self.assert_events("mirror((a b c))", 0, [(0, "1/3", "c"), ("1/3", "1/3", "b"), ("2/3", "1/3", "a")])
        self.assert_events("mirror(late(1/4, a))", 0, [("3/4", 1, "a")])
        self.assert_events("mirror((a _ b:5))", 0, [("2/3", "1/3", "a"), ("2/3", "5/3", "b")])
        self.assert_events("mirror((a:2 _ _):2)", 0, [("2/3", "4/3", "a")])
        self.assert_events("mirror(a:2)", 0, [(0, 2, "a")])
        self.assert_events("mirror(a:2)", 1, [])

    def test_each(self):
        for cycle in (0, 3, 6, HUGE - 1):
            self.assert_events("each(3, a, b)", cycle, [(0, 1, "a")])
        for cycle in (1, 2, 4, HUGE):
            self.assert_events("each(3, a, b)", cycle, [(0, 1, "b")])
        self.assert_events("each(2, {a b c}, {d e f})", 2, [(0, 1, "c")])
        self.assert_events("each(2, {a b c}, {d e f})", 3, [(0, 1, "d")])
        self.assert_events("late(1/2, each(2, a, b))", 0, [("1/2", 1, "a")])
        self.assert_events("late(1/2, (_ each(2, a, b)))", 0, [(0, "1/2", "b")])
        self.assert_events("each(1, a, b)", 1, [(0, 1, "a")])

    def test_order(self):
        self.assert_events("[late(1/3, a) + (_ b) + (c c c)^3 + z + y]", 0, [
            (0, "1/9", "c"), (0, 1, "y"), (0, 1, "z"), ("1/9", "1/9", "c"), ("2/9", "1/9", "c"), ("1/3", "1/9", "c"),
            ("1/3", 1, "a"), ("4/9", "1/9", "c"), ("1/2", "1/2", "b"), ("5/9", "1/9", "c"), ("2/3", "1/9", "c"),
            ("7/9", "1/9", "c"), ("8/9", "1/9", "c")])
        self.assert_events("[ab + b + a + (b _) + (a _)]", 0, [
            (0, "1/2", "a"), (0, "1/2", "b"), (0, 1, "a"), (0, 1, "ab"), (0, 1, "b")])

    def test_many_tempos(self):
        self.assert_events("a" + ":16" * 600, 0, [(0, 16 ** 600, "a")])
        self.assert_events("a" + ":16" * 600, HUGE, [])
        self.assert_events("a" + "^1" * 999, HUGE, [(0, 1, "a")])
        self.assert_events("a" + ":16" * 15 + ":1" * 500, 16 ** 14, [])
        self.assert_events("a" + ":16" * 14 + ":1" * 500, 16 ** 14, [(0, 16 ** 14, "a")])

    def test_a_pattern_at_the_limits(self):
        pattern = "late(1/2, " * 10 + "(a b c d e)^10^10" + ")" * 10
        events = [(Fraction(at, 500), "1/500", "abcde"[at % 5]) for at in range(500)]
        self.assert_events(pattern, 3, events)

    def test_returned_lists_are_new(self):
        for pattern in ("(a b)", "a", "_", "{a b}"):
            first = cycle_events(pattern, 0)
            kept = list(first)
            first.append("more")
            self.assertEqual(cycle_events(pattern, 0), kept)
            first.clear()
            self.assertEqual(cycle_events(pattern, 0), kept)

    def test_canonical_texts_have_the_same_events(self):
        rng = random.Random(10)
        for _ in range(100):
            tree = valid_tree(rng, 10)
            text, _ = join_tokens(tokens_of(tree), rng)
            self.assertEqual(cycle_events(text, 3), cycle_events(canonical(tree), 3))


if __name__ == "__main__":
    unittest.main()
