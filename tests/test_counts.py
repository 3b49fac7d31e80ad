"""Point 9: count_events, nth_event, average_events, next_event and word_shares."""

import random
import unittest

from cyclebeat.periods import average_events, count_events, next_event, nth_event, word_shares
from tests.tables import (average_of, bounded_tree, event_with_number, next_with_word, number_of_events,
                          shares_of, small_tree, words_of)
from tests.trees import join_tokens, tokens_of

HUGE = 10 ** 18


def some_numbers(rng):
    """Return numbers of cycles and events, small ones and large ones."""
    return [0, 1, HUGE, HUGE - 1, rng.randrange(50), rng.randrange(50), HUGE - rng.randrange(100), rng.randrange(HUGE),
            rng.randrange(10 ** rng.randint(1, 18))]


class RandomCountTest(unittest.TestCase):
    def random_trees(self, seed, many):
        rng = random.Random(seed)
        for _ in range(many):
            tree = small_tree(rng) if rng.random() < 0.9 else bounded_tree(rng, 40, rng.randint(15, 40), 12, 4, 8)
            yield rng, tree, join_tokens(tokens_of(tree), rng)[0]

    def test_numbers_of_events(self):
        for rng, tree, text in self.random_trees(50, 500):
            numbers = some_numbers(rng)
            for start, end in [sorted(rng.sample(numbers, 2)) for _ in range(4)] + [(0, HUGE), (HUGE, HUGE)]:
                expected = number_of_events(tree, start, end)
                self.assertEqual(count_events(text, start, end), expected, (text, start, end))

    def test_events_with_numbers(self):
        for rng, tree, text in self.random_trees(51, 500):
            for number in some_numbers(rng):
                self.assertEqual(nth_event(text, number), event_with_number(tree, number), (text, number))

    def test_averages(self):
        for _, tree, text in self.random_trees(52, 500):
            self.assertEqual(average_events(text), average_of(tree), text)

    def test_next_events(self):
        none = 0
        for rng, tree, text in self.random_trees(53, 500):
            for word in sorted(words_of(tree)) + ["none"]:
                for cycle in (0, rng.randrange(50), HUGE, HUGE - rng.randrange(100)):
                    expected = next_with_word(tree, word, cycle)
                    self.assertEqual(next_event(text, word, cycle), expected, (text, word, cycle))
                    none += expected is None and word != "none"
        self.assertGreater(none, 0)

    def test_shares(self):
        for _, tree, text in self.random_trees(54, 500):
            self.assertEqual(word_shares(text), shares_of(tree), text)


class CountTest(unittest.TestCase):
    def test_numbers_of_events(self):
        counts = {
            ("a", 0, 0): 0, ("a", 0, 1): 1, ("a", 0, HUGE): HUGE, ("a", HUGE, HUGE): 0, ("a", HUGE - 1, HUGE): 1,
            ("_", 0, HUGE): 0, ("{a _ (b b)}", 1, 8): 6, ("{a _ (b b)}", 0, 3): 3, ("{a _ (b b)}", 2, 3): 2,
            ("{a _ (b b)}", 1, 2): 0, ("{a _ (b b)}", 5, 5): 0, ("a:3", 1, 3): 0, ("a:3", 1, 4): 1,
            ("a:3", 0, HUGE): (HUGE + 2) // 3, ("(a b c d)^16", 0, HUGE): 64 * HUGE, ("[a + a]", 0, 5): 10,
            ("late(1/2, {a (b b)})", 0, 1): 2, ("late(1/2, {a (b b)})", 1, 2): 1, ("each(7, _, a)", 0, 700): 600,
        }
        for arguments, expected in counts.items():
            with self.subTest(arguments=arguments):
                self.assertEqual(count_events(*arguments), expected)

    def test_events_with_numbers(self):
        events = {
            ("a", 0): (0, (0, 1), (1, 1), "a"), ("a", HUGE): (HUGE, (0, 1), (1, 1), "a"), ("_", 0): None,
            ("_:16", HUGE): None, ("{_ _ a}", 0): (2, (0, 1), (1, 1), "a"), ("{_ _ a}", 1): (5, (0, 1), (1, 1), "a"),
            ("{_ _ a}", HUGE): (3 * HUGE + 2, (0, 1), (1, 1), "a"), ("a:16", HUGE): (16 * HUGE, (0, 1), (16, 1), "a"),
            ("{a _ (b c)}", 1): (2, (0, 1), (1, 2), "b"), ("{a _ (b c)}", 2): (2, (1, 2), (1, 2), "c"),
            ("{a _ (b c)}", 3): (3, (0, 1), (1, 1), "a"), ("[c + (a _) + b]", 2): (0, (0, 1), (1, 1), "c"),
            ("[c + (a _) + b]", 3): (1, (0, 1), (1, 2), "a"), ("[a + a]", 1): (0, (0, 1), (1, 1), "a"),
            ("[a + a]", 2): (1, (0, 1), (1, 1), "a"), ("(a b c d)", HUGE): (HUGE // 4, (0, 1), (1, 4), "a"),
        }
        for arguments, expected in events.items():
            with self.subTest(arguments=arguments):
                self.assertEqual(nth_event(*arguments), expected)

    def test_averages(self):
        averages = {"a": (1, 1), "_": (0, 1), "_:5": (0, 1), "{a (b b)}": (3, 2), "{a _ _}": (1, 3), "a:16": (1, 16),
                    "{(a b) _}": (1, 1), "(a b c)^4": (12, 1), "each(6, (a b), _)": (1, 3), "each(4, _, a)": (3, 4)}
        for pattern, expected in averages.items():
            with self.subTest(pattern=pattern):
                self.assertEqual(average_events(pattern), expected)


class WordTest(unittest.TestCase):
    def test_next_events(self):
        events = {
            ("a", "a", 0): (0, (0, 1), (1, 1)), ("a", "a", HUGE): (HUGE, (0, 1), (1, 1)), ("a", "b", 0): None,
            ("_", "a", HUGE): None, ("{a _ (b c)}", "c", 3): (5, (1, 2), (1, 2)),
            ("{a _ (b c)}", "a", 1): (3, (0, 1), (1, 1)), ("{a _ (b c)}", "b", 2): (2, (0, 1), (1, 2)),
            ("a:16", "a", HUGE): (HUGE, (0, 1), (16, 1)), ("{a b}:16", "a", HUGE - 1): (HUGE, (0, 1), (16, 1)),
            ("{a b}:16", "a", HUGE): (HUGE, (0, 1), (16, 1)), ("{b a}:16", "a", HUGE): (HUGE + 16, (0, 1), (16, 1)),
            ("(a b b)", "b", 7): (7, (1, 3), (1, 3)), ("[b:2 + b + (b a)]", "b", 2): (2, (0, 1), (1, 2)),
            ("[ab + b]", "b", 0): (0, (0, 1), (1, 1)), ("abcdefgh", "abcdefgh", 0): (0, (0, 1), (1, 1)),
            ("abcdefgh", "abc", 0): None, ("each(1, a, b)", "b", 0): None, ("each(2, a, {_ _ _ b})", "b", 0):
                (3, (0, 1), (1, 1)), ("{a _ _ _ _}", "a", 1): (5, (0, 1), (1, 1)),
        }
        for arguments, expected in events.items():
            with self.subTest(arguments=arguments):
                self.assertEqual(next_event(*arguments), expected)

    def test_shares(self):
        shares = {
            "a": [("a", 1, (1, 1))], "_": [], "{a (b b a)}": [("a", 2, (4, 3)), ("b", 2, (2, 3))],
            "{a a}": [("a", 1, (1, 1))], "{a a b}": [("a", 2, (2, 1)), ("b", 1, (1, 1))],
            "[b + ab + a + aa]": [("a", 1, (1, 1)), ("aa", 1, (1, 1)), ("ab", 1, (1, 1)), ("b", 1, (1, 1))],
            "a:16": [("a", 1, (16, 1))], "(a b)^2:2": [("a", 1, (1, 2)), ("b", 1, (1, 2))],
            "each(1, a, b)": [("a", 1, (1, 1))],
            "[a + (a a a)]": [("a", 4, (2, 1))], "{(b a) (a b)}:2": [("a", 2, (2, 1)), ("b", 2, (2, 1))],
        }
        for pattern, expected in shares.items():
            with self.subTest(pattern=pattern):
                self.assertEqual(word_shares(pattern), expected)

    def test_returned_lists_are_new(self):
        first = word_shares("(a b)")
        first.clear()
        self.assertEqual(word_shares("(a b)"), [("a", 1, (1, 2)), ("b", 1, (1, 2))])


if __name__ == "__main__":
    unittest.main()
