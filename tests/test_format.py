"""Point 4: format_pattern and measure."""

import random
import unittest

from cyclebeat.formatter import format_pattern, measure
from tests.trees import canonical, join_tokens, tokens_of, units, valid_tree


class RandomFormatTest(unittest.TestCase):
    def test_canonical_form_and_size(self):
        rng = random.Random(6)
        for _ in range(1000):
            tree = valid_tree(rng, rng.choice((1, 4, 12, 60)))
            expected = canonical(tree)
            texts = [expected] + [join_tokens(tokens_of(tree), way)[0] for way in (None, rng, rng)]
            for text in texts:
                self.assertEqual(format_pattern(text), expected)
                self.assertEqual(measure(text), units(tree))


class FormatTest(unittest.TestCase):
    def test_canonical_texts(self):
        texts = {
            " a ": "a", "_": "_", "( a )": "(a)", "(a b(c)d)": "(a b (c) d)", "[ a+b +c ]": "[a + b + c]", "[a]": "[a]",
            "{a(b)_}": "{a (b) _}", "(a^2b: 3_ ^1:1)": "(a^2 b:3 _^1:1)", "a ^ 2 ^ 3 : 4": "a^2^3:4",
            "mirror ( a )": "mirror(a)", "late(1/4,a)": "late(1/4, a)", "late ( 1 / 4 , a ) ^ 2": "late(1/4, a)^2",
            "late(2/4, a)": "late(1/2, a)", "late(48/64,a)": "late(3/4, a)", "late(0/1, a)": "late(0/1, a)",
            "late(0/64, a)": "late(0/1, a)", "late(2/3, late(4/6, a))": "late(2/3, late(2/3, a))",
            "each(2,a,b)": "each(2, a, b)", "each ( 16 , (a b) , [a+b] ):16": "each(16, (a b), [a + b]):16",
            "(a  [b  +  {c   d}])": "(a [b + {c d}])", "late(1/2,mirror(_))": "late(1/2, mirror(_))",
        }
        for text, expected in texts.items():
            with self.subTest(text=text):
                self.assertEqual(format_pattern(text), expected)
                self.assertEqual(format_pattern(expected), expected)

    def test_sizes(self):
        sizes = {
            "a": 1, "_": 1, "a^2:3^4": 1, "(a)": 2, "[a + b]": 3, "{a b c}^2": 4, "mirror(a)": 2, "late(1/2, a)": 2,
            "each(2, a, b)": 3, "each(2, (a b), mirror([_ + _]))": 8, "(" + "a " * 59 + ")": 60,
            "(" * 11 + "a" + ")" * 11: 12, "a" + "^1" * 900: 1,
        }
        for text, size in sizes.items():
            with self.subTest(text=text):
                self.assertEqual(measure(text), size)

    def test_many_tempos(self):
        for text in ("a" + "^1" * 999, "(a b)" + ":16" * 600, "a" + "^1:16" * 300):
            self.assertEqual(format_pattern(text), text)


if __name__ == "__main__":
    unittest.main()
