"""Point 2: SyntaxFault."""

import random
import unittest

from cyclebeat.events import cycle_events, sounding_events, window_events
from cyclebeat.formatter import format_pattern, measure
from tests.faults import fault_of, syntax_fault
from tests.grammar import expected_place
from tests.trees import join_tokens, random_tree, tokens_of

TOKENS = ["a", "abcdefgh", "_", "(", ")", "[", "]", "{", "}", "+", "^", ":", "/", ",", "mirror", "late", "each",
          "lat", "mirrors", "0", "1", "16", "17", "999"]
INVALID = ["abcdefghi", "mirrormir", "00", "01", "012", "1000", "0000", "A", "%", "-", ".", "~", "!", "'", '"', "\\",
           "`", "@", "<", "\n", "\t", "\u00e9", "\u0661", "\u00b2"]


def change_tokens(rng, tokens):
    """Return tokens with up to two of them removed, inserted or replaced, or cut off."""
    tokens = list(tokens)
    for _ in range(rng.choice((0, 1, 1, 2, 2))):
        token = rng.choice(INVALID) if rng.random() < 0.1 else rng.choice(TOKENS)
        at = rng.randrange(len(tokens) + 1)
        way = rng.choice(("remove", "insert", "replace", "cut"))
        if way == "insert":
            tokens.insert(at, token)
        elif way == "cut" and rng.random() < 0.5:
            del tokens[at:]
        else:
            tokens[at:at + 1] = [token] if way == "replace" and at < len(tokens) else []
    return tokens


def syntax_place(pattern):
    """Return the place of the SyntaxFault of a pattern, or None; other errors do not count."""
    fault = fault_of(format_pattern, pattern)
    return fault[1]["place"] if fault and fault[0] == "SyntaxFault" else None


class RandomSyntaxTest(unittest.TestCase):
    def test_changed_tokens(self):
        rng = random.Random(2)
        fitting = 0
        for _ in range(4000):
            tokens = change_tokens(rng, tokens_of(random_tree(rng, rng.randint(1, 25))))
            text, places = join_tokens(tokens, rng if rng.random() < 0.7 else None)
            expected = expected_place(tokens, text, places)
            self.assertEqual(syntax_place(text), expected, text)
            fitting += expected is None
        self.assertTrue(400 < fitting < 3000, fitting)

    def test_invalid_tokens_count_before_the_grammar(self):
        rng = random.Random(3)
        for _ in range(500):
            tokens = tokens_of(random_tree(rng, rng.randint(1, 12)))
            rng.shuffle(tokens)
            tokens.insert(rng.randrange(len(tokens) + 1), rng.choice(INVALID))
            text, places = join_tokens(tokens, rng)
            self.assertEqual(syntax_place(text), expected_place(tokens, text, places), text)

    def test_patterns_that_fit(self):
        rng = random.Random(4)
        for _ in range(300):
            text, _ = join_tokens(tokens_of(random_tree(rng, rng.randint(1, 80), 40, 999, 999)), rng)
            self.assertIsNone(syntax_place(text), text)


class SyntaxTest(unittest.TestCase):
    def assert_places(self, places):
        for pattern, place in places.items():
            with self.subTest(pattern=pattern):
                self.assertEqual(syntax_place(pattern), place)

    def test_words(self):
        self.assert_places({
            "a": None, "abcdefgh": None, "z": None, "abcdefghi": 0, "(a abcdefghi": 3, "a_": 1, "__": 1, "a b": 2,
            "A": 0, "aB": 1, "a\u00e9": 1, "a\u0131": 1, "latex": None, "lat": None, "mirrored": None, "lateeach": None,
            "eachlatex": 0, "(a mirrormirror)": 3,
        })

    def test_keywords_are_no_words(self):
        self.assert_places({
            "mirror": 6, "late": 4, "each": 4, "mirror a": 7, "late a": 5, "(late)": 5, "mirror()": 7, "mirror( )": 8,
            "mirror(late)": 11, "mirror(a b)": 9, "mirror(a": 8, "(mirror)(a)": 7,
        })

    def test_numbers(self):
        self.assert_places({
            "a^0": None, "a^999": None, "a^1000": 2, "a^00": 2, "a^01": 2, "a^012": 2, "0": 0, "12": 0, "00": 0,
            "(01 a": 1, "(1 a": 1, "late(0/1,a)": None, "late(00/1,a)": 5, "late(0/01,a)": 7, "a^1 2": 4, "a^12a": 4,
            "a^\u0661": 2, "a^1\u00b2": 3, "a^b": 2, "a^": 2, "a^ ": 3, "a^^1": 2, "a^-1": 2, "a^1:2^3": None,
        })

    def test_numbers_of_keywords(self):
        self.assert_places({
            "late(1/4, a)": None, "late(a, a)": 5, "late(1, a)": 6, "late(1/, a)": 7, "late(1/4 a)": 9,
            "late(1/4)": 8, "late(1/4,)": 9, "late(1/4, a b)": 12, "late(1/4, a": 11, "late(1:4, a)": 6,
            "each(2, a, b)": None, "each(2, a)": 9, "each(2, a b)": 10, "each(2, a, b, c)": 12, "each(a, b)": 5,
            "each(2 a, b)": 7, "each(2, a, )": 11, "each(2/1, a, b)": 6,
        })

    def test_brackets(self):
        self.assert_places({
            "(a)": None, "()": 1, "( )": 2, "(a": 2, "(a ]": 3, "(a + b)": 3, "(a, b)": 2, "a)": 1, ")": 0,
            "[a]": None, "[]": 1, "[a b]": 3, "[a + ]": 5, "[a + b": 6, "[+ a]": 1, "[a ++ b]": 4, "[a)": 2,
            "{a b}": None, "{}": 1, "{a}": None, "{a + b}": 3, "{a ^2}": None, "{^2}": 1, "(a)(b)": 3, "a (b)": 2,
            "[a^2 + b:3]:4": None, "(a ^ 2 : 3 b)": None,
        })

    def test_ends(self):
        self.assert_places({"": 0, " ": 1, "   ": 3, " a ": None, "(a b": 4, "(a b  ": 6, "[a +": 4})

    def test_first_invalid_token_wins(self):
        self.assert_places({") A": 2, "a b 01": 4, "(( %": 3, "abcdefghi %": 0, "a b": 2})

    def test_other_characters(self):
        for character in "!\"#$%&'*-.0123456789;<=>?@ABCXYZ\\`|~\n\t\r\0\u00a0\u00e9":
            with self.subTest(character=character):
                self.assertEqual(syntax_place("(a " + character + " a)"), 3)
                self.assertEqual(syntax_place(character), 0)

    def test_deep_nesting(self):
        for levels in (11, 12, 40, 45):
            self.assertIsNone(syntax_place("(" * levels + "a" + ")" * levels))
            self.assertIsNone(syntax_place("mirror(" * levels + "a" + ")" * levels))
            self.assertEqual(syntax_place("[" * levels + "a" + "]" * (levels - 1)), 2 * levels)
            self.assertEqual(syntax_place("{" * levels + "a" + "}" * (levels + 1)), 2 * levels + 1)

    def test_syntax_comes_before_the_limits(self):
        self.assert_places({"a^0 b": 4, "(a^17": 5, "late(3/2, a": 11, "(" * 20 + "a": 21, "(" + "a " * 61: 123})

    def test_the_length_alone_is_no_fault(self):
        self.assertEqual(format_pattern("a" + " " * 1999), "a")
        self.assertEqual(format_pattern("a" + " " * 2000), "a")
        self.assertEqual(measure("a" + "^1" * 999), 1)

    def test_all_functions_raise_it(self):
        for function in (format_pattern, measure):
            self.assertEqual(fault_of(function, "(a ))"), syntax_fault(4))
        self.assertEqual(fault_of(cycle_events, "(a ))", 0), syntax_fault(4))
        self.assertEqual(fault_of(window_events, "(a ))", (0, 1), (1, 1)), syntax_fault(4))
        self.assertEqual(fault_of(sounding_events, "(a ))", (0, 1)), syntax_fault(4))


if __name__ == "__main__":
    unittest.main()
