"""Points 2, 4, 5, 7, 9, 12 and 13 together: other gaps between the tokens, and other words, change nothing else."""

import random
import unittest

from cyclebeat.encoding import decode, encode
from cyclebeat.events import cycle_events, sounding_events, window_events
from cyclebeat.formatter import format_pattern, measure
from cyclebeat.periods import average_events, count_events, find_period, next_event, nth_event, tabulate, word_shares
from tests.codes import tree_of
from tests.oracle import as_fractions, as_pairs
from tests.tables import bounded_tree, small_tree, with_items, words_of
from tests.trees import canonical, items, join_tokens, tokens_of

HUGE = 10 ** 18


def new_words(rng, words):
    """Return a dict that gives each word another one, and no two the same."""
    found = {}
    while len(found) < len(words):
        word = "".join(rng.choice("abcdefghijklmnopqrstuvwxyz") for _ in range(rng.randint(1, 8)))
        if word not in ("mirror", "late", "each") and word not in found.values():
            found[sorted(words)[len(found)]] = word
    return found


def renamed(tree, names):
    if tree[0] == "word":
        return ("word", names[tree[1]])
    return with_items(tree, [renamed(item, names) for item in items(tree)])


def renamed_events(events, names):
    return as_pairs(sorted((start, length, names[word]) for start, length, word in as_fractions(events)))


class SpellingTest(unittest.TestCase):
    def setUp(self):
        self.rng = random.Random(161)

    def random_trees(self, many):
        for _ in range(many):
            large = self.rng.random() < 0.2
            yield bounded_tree(self.rng, 200, 30, 12, 6, 12) if large else small_tree(self.rng)

    def spelling(self, tree):
        return join_tokens(tokens_of(tree), self.rng)[0]

    def test_other_gaps(self):
        for tree in self.random_trees(300):
            cycle = self.rng.choice((0, 3, HUGE - 4))
            answers = []
            for text in (canonical(tree), join_tokens(tokens_of(tree))[0], self.spelling(tree), self.spelling(tree)):
                code = encode(text)
                answers.append([
                    format_pattern(text), measure(text), cycle_events(text, cycle), find_period(text), tabulate(text),
                    window_events(text, (cycle, 1), (3 * cycle + 4, 3)), sounding_events(text, (2 * cycle + 1, 2)),
                    count_events(text, cycle, cycle + 4), nth_event(text, cycle), average_events(text),
                    next_event(text, "a", cycle), word_shares(text), code, decode(code)])
            for answer in answers:
                self.assertEqual(answer, answers[0], canonical(tree))
            self.assertEqual(answers[0][0], answers[0][-1])

    def test_other_words(self):
        for tree in self.random_trees(300):
            names = new_words(self.rng, words_of(tree))
            first, second = self.spelling(tree), self.spelling(renamed(tree, names))
            cycle = self.rng.choice((0, 3, HUGE - 4))
            for ask in (measure, find_period, average_events, lambda text: count_events(text, cycle, cycle + 4)):
                self.assertEqual(ask(first), ask(second), (first, second))
            for ask in (lambda text: cycle_events(text, cycle), lambda text: sounding_events(text, (4 * cycle + 3, 4)),
                        lambda text: window_events(text, (cycle, 1), (2 * cycle + 3, 2))):
                self.assertEqual(renamed_events(ask(first), names), ask(second), (first, second))
            shares = [(names[word], many, length) for word, many, length in word_shares(first)]
            self.assertEqual(sorted(shares), word_shares(second), (first, second))
            for word, name in names.items():
                self.assertEqual(next_event(first, word, cycle), next_event(second, name, cycle), (first, second))

    def test_bytes_of_other_words(self):
        for tree in self.random_trees(300):
            names = new_words(self.rng, words_of(tree))
            codes = [encode(self.spelling(tree)), encode(self.spelling(renamed(tree, names)))]
            self.assertEqual(renamed(tree_of(codes[0]), names), tree_of(codes[1]), codes)
            self.assertEqual([decode(code) for code in codes], [canonical(tree), canonical(renamed(tree, names))])


if __name__ == "__main__":
    unittest.main()
