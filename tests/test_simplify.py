"""Point 10: simplify."""

import random
import re
import unittest
from math import lcm

from cyclebeat.events import cycle_events
from cyclebeat.formatter import format_pattern, measure
from cyclebeat.periods import are_equal
from cyclebeat.simplifier import simplify
from tests.faults import STRANGE, check_fault, fault_of, syntax_fault
from tests.forms import far_form, silenced, wordy_tree
from tests.oracle import events_of
from tests.reading import read_tree
from tests.tables import bound_of, difference_of, small_tree
from tests.trees import BRACKETS, canonical, is_valid, items, join_tokens, tokens_of, units

HUGE = 10 ** 18
REST = ("rest",)


def surplus_of(tree):
    """Return what point 10 forbids at the top of a tree, or None."""
    kind, inner = tree[0], items(tree)
    if kind in BRACKETS and len(inner) == 1:
        return "a single item"
    if inner and all(item == REST for item in inner):
        return "only rests"
    if kind == "stack" and any(item == REST or item[0] == "stack" for item in inner):
        return "an item of [ ]"
    if kind in ("fast", "slow"):
        return surplus_tempo(*tree)
    if kind == "mirror" and inner[0][0] == "mirror":
        return "mirror of mirror"
    if kind == "late":
        return surplus_shift(*tree)
    if kind == "each" and (tree[1] == 1 or inner[0] == inner[1]):
        return "each"
    return None


def surplus_tempo(kind, number, inner):
    if number == 1:
        return "^1 or :1"
    if inner[0] == kind and number * inner[1] <= 16:
        return "two ^ or two :"
    if inner[0] in ("fast", "slow") and inner[0] != kind and number == inner[1]:
        return "^ and :"
    return None


def surplus_shift(_, number, divisor, inner):
    if number == 0:
        return "late by 0"
    if inner[0] == "late":
        over, under = number * inner[2] + inner[1] * divisor, divisor * inner[2]
        if over < under and any(over * small % under == 0 for small in range(1, 65)):
            return "late of late"
    return None


def surplus_within(tree):
    """Return all that point 10 forbids anywhere in a tree."""
    found = [surplus_of(tree)] + [part for item in items(tree) for part in surplus_within(item)]
    return [part for part in found if part is not None]


def each_pairs(tree):
    own = [tree[2:]] if tree[0] == "each" else []
    return own + [pair for item in items(tree) for pair in each_pairs(item)]


class RandomSimplifyTest(unittest.TestCase):
    def check(self, tree, rng):
        """Check all that point 10 says of the simplified form of a tree, and return this form."""
        text = join_tokens(tokens_of(tree), rng)[0]
        found = simplify(text)
        self.assertEqual(format_pattern(found), found, text)
        self.assertEqual(simplify(found), found, text)
        self.assertLessEqual(measure(found), units(tree), text)
        form = read_tree(found)
        self.assertEqual(canonical(form), found)
        self.assertEqual(surplus_within(form), [], (text, found))
        for cycle in [*range(min(bound_of(tree), 30)), rng.randrange(HUGE), HUGE]:
            self.assertEqual(events_of(form, cycle), events_of(tree, cycle), (text, found, cycle))
            if cycle < 3:
                self.assertEqual(cycle_events(found, cycle), cycle_events(text, cycle), (text, found))
        if bound_of(tree) <= 300:
            self.assertTrue(are_equal(text, found), (text, found))
        return form

    def test_forms_of_patterns(self):
        rng = random.Random(80)
        smaller = 0
        for _ in range(500):
            tree = far_form(rng, silenced(rng, small_tree(rng, 8, 24)), rng.randint(1, 20))
            smaller += units(self.check(tree, rng)) < units(tree)
        self.assertGreater(smaller, 300)

    def test_patterns_as_they_come(self):
        rng = random.Random(81)
        for _ in range(400):
            self.check(wordy_tree(rng, rng.randint(1, 20), 12, rng.choice((2, 3, 16)), rng.choice((2, 12, 64))), rng)

    def test_large_patterns(self):
        rng = random.Random(82)
        for _ in range(60):
            self.check(far_form(rng, wordy_tree(rng, rng.randint(20, 50), 12, 4, 12), 20), rng)

    def test_many_numbers(self):
        rng = random.Random(83)
        for _ in range(400):
            tree = ("word", "a")
            for _ in range(rng.randint(1, 10)):
                kind = rng.choice(("fast", "slow", "slow", "late", "seq"))
                bare = {"late": ("late", rng.randrange(6), rng.choice((6, 7, 8, 64)), tree), "seq": ("seq", (tree,))}
                tree = bare.get(kind, (kind, rng.randint(1, 5), tree))
            if is_valid(tree):
                self.check(tree, rng)

    def test_patterns_of_few_kinds(self):
        rng = random.Random(84)
        for _ in range(500):
            tree = rng.choice((("word", "a"), REST, ("turn", (("word", "a"), ("word", "b")))))
            for _ in range(rng.randint(1, 9)):
                other = rng.choice((REST, tree, ("word", "b")))
                tree = rng.choice((("mirror", tree), ("late", rng.randrange(4), 4, tree), ("stack", (tree, other)),
                                   ("each", rng.randint(1, 3), tree, other), ("seq", (tree,)),
                                   ("stack", (other, tree))))
            if is_valid(tree):
                self.check(tree, rng)

    def test_patterns_that_are_equal_in_another_form(self):
        rng = random.Random(85)
        for _ in range(250):
            tree = small_tree(rng, 5, 12)
            pair = ("each", rng.randint(2, 4), tree, far_form(rng, tree, 6, 60))
            form = self.check(rng.choice((pair, ("seq", (pair, ("word", "z"))), ("each", 3, pair, ("word", "z")))), rng)
            for first, second in each_pairs(form):
                if lcm(bound_of(first), bound_of(second)) <= 200:
                    self.assertIsNotNone(difference_of(first, second), form)


class SimplifyTest(unittest.TestCase):
    def assert_simple(self, answers):
        for text, expected in answers.items():
            with self.subTest(text=text):
                self.assertEqual(simplify(text), expected)
                self.assertEqual(simplify(expected), expected)

    def test_single_items(self):
        self.assert_simple({"(a)": "a", "[a]": "a", "{a}": "a", "([{(a)}])": "a", "(a^2)^3": "a^6",
                            "{(a b)}:2": "(a b):2", "((a b) {c})": "((a b) c)", "[a + (b)]": "[a + b]",
                            "mirror((a))": "mirror(a)"})

    def test_rests(self):
        self.assert_simple({"_": "_", "(_ _)": "_", "[_ + _]": "_", "{_ _ _}": "_", "mirror(_)": "_",
                            "late(1/2, _)": "_", "each(3, _, _)": "_", "_^2": "_", "_:3^2": "_",
                            "(_ (_ [_ + _^4]) {_}):2": "_", "(_)": "_", "late(0/1, _)": "_",
                            "(a _)": "(a _)", "{_ a}": "{_ a}", "each(2, _, a)": "each(2, _, a)"})

    def test_layers(self):
        self.assert_simple({"[a + _]": "a", "[_ + a^2]": "a^2", "[a + [b + c]]": "[a + b + c]", "[[a + _] + _]": "a",
                            "[([a + b]) + {[c]}]": "[a + b + c]", "[[a + b]^2 + c]": "[[a + b]^2 + c]",
                            "[[a + b]^2:2 + c]": "[a + b + c]", "[[[a + b] + [c + d]] + e]": "[a + b + c + d + e]",
                            "[a + mirror(_)]": "a", "([a + b] c)": "([a + b] c)"})

    def test_tempos(self):
        self.assert_simple({"a^1": "a", "a:1": "a", "a^2^3": "a^6", "a:4:4": "a:16", "a^4^5": "a^4^5", "a:3:6": "a:3:6",
                            "a^2:2": "a", "a:7^7": "a", "a^2^3:6": "a", "a:6^2^3": "a", "a^5:2^1:1:1": "a^5:2",
                            "a^2:3^2": "a^2:3^2", "a^5:3:3^9^2": "a^10", "(a:2)^2": "a", "((a^2)^2)^2": "a^8",
                            "(a)^16^16": "a^16^16", "a" + "^1" * 900: "a", "a" + ":2" * 8: "a:16:16",
                            "a" + ":16" * 600: "a" + ":16" * 600, "a" + "^2:2" * 8: "a", "a:2^3^2:6^3": "a:2^3"})

    def test_mirrors(self):
        self.assert_simple({"mirror(mirror(a))": "a", "mirror(mirror(mirror((a b))))": "mirror((a b))",
                            "mirror((mirror((a b)^2)))^3": "(a b)^6", "mirror([mirror(mirror(mirror(a))) + _])": "a",
                            "mirror(mirror(a)^2)": "mirror(mirror(a)^2)", "mirror(mirror(a:2)^2:2)": "a:2"})

    def test_shifts(self):
        self.assert_simple({
            "late(0/1, a)": "a", "late(0/7, a:2)": "a:2", "late(1/4, late(1/4, a))": "late(1/2, a)",
            "late(2/4, a)": "late(1/2, a)", "late(1/2, late(1/2, a))": "late(1/2, late(1/2, a))",
            "late(2/3, late(1/2, a))": "late(2/3, late(1/2, a))", "late(1/2, late(0/1, late(1/4, a)))": "late(3/4, a)",
            "late(1/64, late(1/63, a))": "late(1/64, late(1/63, a))", "late(1/64, late(1/64, a))": "late(1/32, a)",
            "late(3/64, late(1/64, late(1/3, a)))": "late(19/48, a)", "late(1/4, (late(1/4, a)))": "late(1/2, a)",
            "late(1/64, late(62/64, a))": "late(63/64, a)", "late(1/64, late(63/64, a))": "late(1/64, late(63/64, a))",
            "late(1/4, late(1/4, a)^2)": "late(1/4, late(1/4, a)^2)", "late(1/4, late(1/4, a)^2:2)": "late(1/2, a)",
            "late(1/4, mirror(mirror(late(1/4, a))))": "late(1/2, a)"})

    def test_each(self):
        self.assert_simple({"each(1, a, b)": "a", "each(1, a:2, b)^2": "a", "each(2, a, a)": "a",
                            "each(5, (a), [a + _])": "a", "each(2, a, b)": "each(2, a, b)",
                            "each(2, (a a), a^2)": "a^2", "each(2, a^2, (a a))^2": "a^4",
                            "each(2, (a b), [b + a])": "each(2, (a b), [b + a])",
                            "each(3, {(a b) (a c)}, (a {b c}))": "(a {b c})", "each(2, each(1, a, b), a)": "a"})

    def test_bounds_do_not_matter(self):
        self.assert_simple({"(a:16:16:16)": "a:16:16:16", "each(2, a:16:16:16, [a:16:16:16])": "a:16:16:16",
                            "each(2, {a b}:10:10:5, (a b):10:10:10)": "{a b}:10:10:5",
                            "each(2, a:16:16:16, b:16:16:16)": "each(2, a:16:16:16, b:16:16:16)"})

    def test_limits(self):
        self.assert_simple({"(" * 11 + "a" + ")" * 11: "a", "[a" + " + _" * 58 + "]": "a",
                            "[" * 11 + "a + a" + "]" * 11: "[a + a]", "(" + "a " * 58 + "a)": "(" + "a " * 58 + "a)",
                            "(a b c d e)^10^10": "(a b c d e)^10^10", "{(a)}^10:10^10^5": "a^10^5"})

    def test_no_forbidden_text(self):
        rng = random.Random(86)
        forbidden = re.compile(r"[\^:]1(?![0-9])|_[\^:]|late\(0/|each\(1,|\(_\)|_ \+|\+ _")
        for _ in range(300):
            tree = far_form(rng, silenced(rng, small_tree(rng, 10, 24)), rng.randint(1, 20))
            self.assertIsNone(forbidden.search(simplify(canonical(tree))), tree)

    def test_faults(self):
        for text, fault in (("(a", syntax_fault(2)), ("a^0", check_fault("number", 2)), ("(_ _))", syntax_fault(5)),
                            ("a^16^16^16", check_fault("events", 0)),
                            ("[_" + " + _" * 60 + "]", check_fault("size", 237)),
                            ("mirror(" * 12 + "_" + ")" * 12, check_fault("depth", 84))):
            self.assertEqual(fault_of(simplify, text), fault, text)
        for value in STRANGE:
            if not isinstance(value, str):
                self.assertEqual(fault_of(simplify, value), syntax_fault(0))


if __name__ == "__main__":
    unittest.main()
