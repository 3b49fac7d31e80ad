"""Points 6 to 9 together, by the program's own results."""

import random
import unittest
from fractions import Fraction

from cyclebeat.events import cycle_events, window_events
from cyclebeat.periods import (are_equal, average_events, count_events, find_period, first_difference, next_event,
                               nth_event, tabulate, word_shares)
from tests.oracle import as_fractions, as_pair
from tests.tables import bound_of, bounded_tree, changed, small_tree, swapped
from tests.trees import canonical, is_valid

HUGE = 10 ** 18


class PeriodLawTest(unittest.TestCase):
    def setUp(self):
        self.rng = random.Random(60)

    def random_texts(self, many):
        for _ in range(many):
            large = self.rng.random() < 0.1
            tree = bounded_tree(self.rng, 200, 30, 12, 6, 12) if large else small_tree(self.rng)
            yield canonical(tree)

    def some_cycles(self):
        return [0, 1, self.rng.randrange(100), self.rng.randrange(HUGE), HUGE - 1 - self.rng.randrange(100)]

    def test_tables_give_the_events_of_all_cycles(self):
        for text in self.random_texts(250):
            table = tabulate(text)
            self.assertEqual(len(table), find_period(text))
            for cycle in self.some_cycles() + [HUGE]:
                self.assertEqual(table[cycle % len(table)], cycle_events(text, cycle), (text, cycle))

    def test_no_smaller_number_is_a_period(self):
        for text in self.random_texts(150):
            table = tabulate(text)
            for smaller in range(1, len(table)):
                self.assertTrue(any(row != table[(cycle + smaller) % len(table)] for cycle, row in enumerate(table)))

    def test_counts_add_up(self):
        for text in self.random_texts(250):
            first, middle, last = sorted(self.some_cycles()[:3])
            whole = count_events(text, first, last)
            self.assertEqual(whole, count_events(text, first, middle) + count_events(text, middle, last), text)
            self.assertEqual(count_events(text, middle, middle), 0)
            for cycle in self.some_cycles():
                self.assertEqual(count_events(text, cycle, cycle + 1), len(cycle_events(text, cycle)), (text, cycle))

    def test_counts_are_those_of_windows(self):
        for text in self.random_texts(100):
            for cycle in (0, HUGE - 20, self.rng.randrange(100)):
                end = cycle + self.rng.randint(0, 20)
                self.assertEqual(count_events(text, cycle, end), len(window_events(text, (cycle, 1), (end, 1))), text)

    def test_averages_are_those_of_tables(self):
        for text in self.random_texts(250):
            table = tabulate(text)
            many = sum(len(row) for row in table)
            self.assertEqual(average_events(text), as_pair(Fraction(many, len(table))))
            self.assertEqual(count_events(text, 0, len(table)), many)
            start = self.some_cycles()[2]
            self.assertEqual(count_events(text, start, start + 3 * len(table)), 3 * many, text)

    def test_events_with_numbers_are_in_their_cycles(self):
        for text in self.random_texts(250):
            for cycle in (0, self.rng.randrange(60), self.rng.randrange(10 ** 15)):
                before = count_events(text, 0, cycle)
                for at, event in enumerate(cycle_events(text, cycle)):
                    self.assertEqual(nth_event(text, before + at), (cycle, *event), (text, cycle))
            if average_events(text) == (0, 1):
                self.assertIsNone(nth_event(text, 0))
            else:
                number = self.rng.randrange(HUGE)
                cycle, *event = nth_event(text, number)
                if cycle < HUGE:
                    self.assertLessEqual(count_events(text, 0, cycle), number)
                    self.assertGreater(count_events(text, 0, cycle + 1), number)
                    self.assertEqual(cycle_events(text, cycle)[number - count_events(text, 0, cycle)], tuple(event))

    def test_next_events_are_the_first_ones_in_tables(self):
        for text in self.random_texts(250):
            table = tabulate(text)
            words = {word for row in table for _, _, word in row}
            for word in sorted(words | {"none"}):
                for cycle in self.some_cycles() + [HUGE]:
                    found = next_event(text, word, cycle)
                    self.assertEqual(found is None, word not in words)
                    if found is not None:
                        self.assertTrue(cycle <= found[0] < cycle + len(table))
                        row = [event for event in table[found[0] % len(table)] if event[2] == word]
                        self.assertEqual((*found[1:], word), row[0])
                        between = [table[at % len(table)] for at in range(cycle, found[0])]
                        self.assertNotIn(word, [event[2] for row in between for event in row])

    def test_shares_are_those_of_tables(self):
        for text in self.random_texts(250):
            events = [event for row in tabulate(text) for event in as_fractions(row)]
            shares = word_shares(text)
            self.assertEqual([word for word, _, _ in shares], sorted({word for _, _, word in events}))
            self.assertEqual(sum(number for _, number, _ in shares), len(events))
            for word, number, length in shares:
                lengths = [own for _, own, other in events if other == word]
                self.assertEqual((number, length), (len(lengths), as_pair(sum(lengths))))
                self.assertTrue(number > 0 and length[0] > 0)
                self.assertIsNotNone(next_event(text, word, self.some_cycles()[3]))


class DifferenceLawTest(unittest.TestCase):
    def setUp(self):
        self.rng = random.Random(61)

    def pairs(self, many):
        """Return the texts of two trees, often of similar ones."""
        for _ in range(many):
            tree = small_tree(self.rng, 8, 12)
            other = changed(self.rng, tree) if self.rng.random() < 0.8 else small_tree(self.rng, 4, 12)
            if is_valid(other) and bound_of(other) <= 60:
                yield canonical(tree), canonical(other)

    def test_by_the_events_of_all_cycles(self):
        for first, second in self.pairs(400):
            difference = first_difference(first, second)
            self.assertEqual(first_difference(second, first), swapped(difference), (first, second))
            self.assertIs(are_equal(first, second), difference is None)
            last = find_period(first) * find_period(second) - 1 if difference is None else difference[0]
            for cycle in range(last + (difference is None)):
                self.assertEqual(cycle_events(first, cycle), cycle_events(second, cycle), (first, second, cycle))
            if difference is not None:
                self.check_difference(first, second, difference)

    def check_difference(self, first, second, difference):
        cycle, *event, number = difference
        ours, theirs = cycle_events(first, cycle), cycle_events(second, cycle)
        more, fewer = (ours, theirs) if number == 0 else (theirs, ours)
        self.assertGreater(more.count(tuple(event)), fewer.count(tuple(event)), (first, second))
        key = as_fractions([event])[0]
        for other in ours + theirs:
            if as_fractions([other])[0] < key:
                self.assertEqual(ours.count(other), theirs.count(other), (first, second))

    def test_equal_patterns_have_equal_results(self):
        many = 0
        for first, second in self.pairs(900):
            if are_equal(first, second):
                many += 1
                self.assertEqual(tabulate(first), tabulate(second))
                self.assertEqual(word_shares(first), word_shares(second))
                self.assertEqual(nth_event(first, 10 ** 15), nth_event(second, 10 ** 15))
            else:
                self.assertNotEqual(tabulate(first), tabulate(second))
        self.assertGreater(many, 20)

    def test_a_third_pattern(self):
        for first, second in self.pairs(150):
            third = canonical(small_tree(self.rng, 3, 8))
            differences = [first_difference(*pair) for pair in ((first, second), (second, third), (first, third))]
            cycles = [difference[0] for difference in differences if difference is not None]
            # No two of three patterns differ earlier than both of them do from the third one.
            self.assertTrue(not cycles or cycles.count(min(cycles)) > 1, (first, second, third))


if __name__ == "__main__":
    unittest.main()
