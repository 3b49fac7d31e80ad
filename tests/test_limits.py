"""Point 3: CheckFault."""

import random
import unittest

from cyclebeat.events import cycle_events, sounding_events, window_events
from cyclebeat.formatter import format_pattern, measure
from tests.faults import check_fault, fault_of
from tests.trees import canonical, expected_fault, random_tree, units


def spoil(rng, tree):
    """Return a tree with one number in it replaced by one that is often not allowed."""
    if tree[0] in ("word", "rest"):
        return tree
    if tree[0] in ("fast", "slow", "each") and rng.random() < 0.4:
        return (tree[0], rng.choice((0, 1, 16, 17, 100, 999)), *tree[2:])
    if tree[0] == "late" and rng.random() < 0.4:
        return (tree[0], rng.choice((0, 1, 63, 64, 65)), rng.choice((0, 1, 64, 65, 999)), tree[3])
    if tree[0] in ("seq", "stack", "turn"):
        at = rng.randrange(len(tree[1]))
        return (tree[0], tree[1][:at] + (spoil(rng, tree[1][at]),) + tree[1][at + 1:])
    return (*tree[:-1], spoil(rng, tree[-1]))


def wrap(rng, tree):
    """Return a tree within one more unit."""
    word = ("word", "a")
    return rng.choice([("seq", (word, tree)), ("stack", (tree, word)), ("turn", (tree,)), ("mirror", tree),
                       ("late", 1, 2, tree), ("each", 3, word, tree), ("each", 2, tree, word)])


class RandomLimitTest(unittest.TestCase):
    def test_random_patterns(self):
        rng = random.Random(5)
        seen = {}
        for _ in range(3000):
            tree = random_tree(rng, rng.choice((5, 20, 55, 65, 80)), rng.choice((12, 14, 18)), rng.choice((2, 3, 16)))
            for _ in range(rng.choice((0, 0, 0, 9))):
                tree = wrap(rng, tree)
            for _ in range(rng.choice((0, 0, 1, 3))):
                tree = spoil(rng, tree)
            text, expected = expected_fault(tree, rng if rng.random() < 0.5 else None)
            fault = fault_of(measure, text)
            self.assertEqual(fault, expected and check_fault(*expected), text)
            reason = expected[0] if expected else None
            seen[reason] = seen.get(reason, 0) + 1
            if expected is None:
                self.assertEqual(measure(text), units(tree))
                self.assertEqual(format_pattern(text), canonical(tree))
        for reason in ("number", "depth", "size", "events", None):
            self.assertGreater(seen.get(reason, 0), 50, (reason, seen))


class LimitTest(unittest.TestCase):
    def assert_faults(self, faults):
        for pattern, fault in faults.items():
            with self.subTest(pattern=pattern):
                self.assertEqual(fault_of(format_pattern, pattern), fault and check_fault(*fault))

    def test_numbers(self):
        self.assert_faults({
            "a^1": None, "a^16": None, "a^0": ("number", 2), "a^17": ("number", 2), "a ^  999": ("number", 5),
            "a:1": None, "a:16": None, "a:0": ("number", 2), "a:17": ("number", 2), "a:2^3:0": ("number", 6),
            "each(1, a, b)": None, "each(16, a, b)": None, "each(0, a, b)": ("number", 5),
            "each(17, a, b)": ("number", 5), "(a each( 0, a, b))": ("number", 9),
        })

    def test_numbers_of_late(self):
        self.assert_faults({
            "late(0/1, a)": None, "late(63/64, a)": None, "late(0/64, a)": None, "late(2/4, a)": None,
            "late(1/1, a)": ("number", 5), "late(0/0, a)": ("number", 5), "late(1/0, a)": ("number", 5),
            "late(5/4, a)": ("number", 5), "late(64/64, a)": ("number", 5), "late(0/65, a)": ("number", 5),
            "late(64/65, a)": ("number", 5), "late(999/999, a)": ("number", 5), "late( 7 / 7 , a)": ("number", 6),
        })

    def test_depth(self):
        for begin, end in (("(", ")"), ("[", "]"), ("{", "}"), ("mirror(", ")"), ("late(1/2,", ")")):
            for around in (11, 12, 13, 40):
                fault = None if around == 11 else ("depth", 12 * len(begin))
                self.assert_faults({begin * around + "a" + end * around: fault})
        self.assert_faults({
            "each(1,a," * 11 + "a" + ")" * 11: None,
            "each(1,a," * 12 + "a" + ")" * 12: ("depth", 9 * 11 + 7),
            "(" * 11 + "a _" + ")" * 11 + "^2": None,
            "(" * 11 + "a" + ")" * 10 + " (_)" + ")": None,
            "(a " + "(" * 11 + "_" + ")" * 12: ("depth", 14),
            "(" * 11 + "mirror(a)" + ")" * 11: ("depth", 18),
            "(" * 12 + "mirror(a)" + ")" * 12: ("depth", 12),
        })

    def test_deeper_units_come_first_in_the_text(self):
        self.assert_faults({
            "(" * 12 + "a^0" + ")" * 12: ("depth", 12),
            "(a^0 " + "(" * 12 + "a" + ")" * 13: ("number", 3),
            "(" + "(" * 12 + "a" + ")" * 12 + "^0)": ("depth", 12),
        })

    def test_size(self):
        self.assert_faults({
            "(" + "a " * 59 + ")": None,
            "(" + "a " * 60 + ")": ("size", 119),
            "[a" + "+_" * 58 + "]": None,
            "[a" + "+_" * 59 + "]": ("size", 119),
            "{" + "a " * 70 + "}": ("size", 119),
            "(" + "a " * 59 + "mirror(a))": ("size", 119),
            "(" + "a " * 57 + "mirror(a))": None,
            "(" + "a " * 58 + "mirror(a))": ("size", 124),
            "(" + "a " * 57 + "late(1/2,a) b)": ("size", 127),
            "(" + "a " * 56 + "each(2,a,b))": None,
            "(" + "a " * 57 + "each(2,a,b))": ("size", 124),
            "(" + "a " * 59 + ")^2:3^1": None,
        })

    def test_size_and_others(self):
        self.assert_faults({
            "(" + "a " * 60 + "a^0)": ("size", 119),
            "(" + "a " * 58 + "a^0 a)": ("number", 119),
            "(" + "a " * 48 + "(" * 11 + "a" + ")" * 12: ("size", 108),
            "(" + "a " * 49 + "(" * 11 + "a" + ")" * 12: ("size", 109),
            "(" + "a " * 47 + "(" * 11 + "a" + ")" * 12: ("depth", 106),
            "(" + "a " * 50 + "(" * 11 + "a" + ")" * 12: ("size", 110),
        })

    def test_weight(self):
        self.assert_faults({
            "(a a a a a)^10^10": None, "[a + a + a + a + a]^10^10": None, "(_ _ _ _ _)^10^10": None,
            "a^16^16": None, "a^16^16^2": ("events", 0), "(a^16^16 b^16^15 c^4)": None,
            "(a^16^16 b^16^15 c^5)": ("events", 0), "[_^16^16 + b^16^15 + c^4]": None,
            "[_^16^16 + b^16^15 + c^5]": ("events", 0), "{a^16^16 b^16^16}": None, "{a b a}^10^10^5": None,
            "{a b a}^10^10^6": ("events", 0), "(a b c)^16^10": None, "(a b c)^16^11": ("events", 0),
        })

    def test_weight_of_other_units(self):
        self.assert_faults({
            "each(2, a^16^16, b^16^16)": None, "each(2, a, b^16^16)^2": ("events", 0),
            "each(2, b^16^16, a)^2": ("events", 0), "{a^16^16 b}^2": ("events", 0),
            "late(1/2, a^16^16^2)": ("events", 0), "mirror(a^16^16^2)": ("events", 0),
            "late(1/2, mirror(a^10^10^5))": None, "late(1/2, mirror(a^10^10^6))": ("events", 0),
            "a^10^10^5:16:16:16": None, "a:16^10:16^10:16^5": None, "a:16^10:16^10:16^6": ("events", 0),
            "a" + ":16" * 600: None, "a" + "^16" * 600: ("events", 0), "a" + "^1" * 900: None,
        })

    def test_weight_comes_last(self):
        self.assert_faults({
            "  a^16^16^16": ("events", 0), "(a^16^16^2 b^0)": ("number", 13),
            "(" + "a^16 " * 60 + ")": ("size", 296), "a^16^16^16^17": ("number", 11),
        })

    def test_all_functions_raise_it(self):
        for pattern, fault in (("(a b)^17", check_fault("number", 6)), ("a^16^16^2", check_fault("events", 0))):
            self.assertEqual(fault_of(format_pattern, pattern), fault)
            self.assertEqual(fault_of(measure, pattern), fault)
            self.assertEqual(fault_of(cycle_events, pattern, 0), fault)
            self.assertEqual(fault_of(window_events, pattern, (0, 1), (1, 1)), fault)
            self.assertEqual(fault_of(sounding_events, pattern, (0, 1)), fault)


if __name__ == "__main__":
    unittest.main()
