"""Point 12: the bytes of patterns."""

import random
import unittest

from cyclebeat.encoding import decode, encode
from tests.codes import closed, code_of
from tests.faults import STRANGE, check_fault, fault_of, syntax_fault
from tests.trees import canonical, join_tokens, tokens_of, valid_tree


class RandomEncodeTest(unittest.TestCase):
    def setUp(self):
        self.rng = random.Random(120)

    def random_trees(self):
        for _ in range(1500):
            yield valid_tree(self.rng, self.rng.choice((3, 10, 60)))

    def test_bytes(self):
        for tree in self.random_trees():
            text = join_tokens(tokens_of(tree), self.rng)[0]
            self.assertEqual(encode(text), code_of(tree), text)

    def test_decoding_returns_the_canonical_pattern(self):
        for tree in self.random_trees():
            text = join_tokens(tokens_of(tree), self.rng)[0]
            code = encode(text)
            kept = list(code)
            self.assertEqual(decode(code), canonical(tree), text)
            self.assertEqual(code, kept)
            self.assertEqual(decode(code_of(tree)), canonical(tree), text)

    def test_all_bytes_are_integers(self):
        for tree in self.random_trees():
            code = encode(canonical(tree))
            self.assertIs(type(code), list)
            self.assertTrue(all(type(byte) is int and 0 <= byte <= 255 for byte in code), code)


class EncodeTest(unittest.TestCase):
    def assert_bytes(self, pattern, inner):
        self.assertEqual(encode(pattern), closed([67, *inner]), pattern)
        self.assertEqual(encode(decode(closed([67, *inner]))), closed([67, *inner]), pattern)

    def test_units(self):
        self.assertEqual(encode("_"), [67, 0, 67])
        self.assert_bytes("a", [1, 1, 0])
        self.assert_bytes("z", [1, 1, 25])
        self.assert_bytes("abcdefgh", [1, 8, 0, 1, 2, 3, 4, 5, 6, 7])
        self.assert_bytes("latex", [1, 5, 11, 0, 19, 4, 23])
        self.assert_bytes("(a)", [2, 1, 1, 1, 0])
        self.assert_bytes("(a _ b)", [2, 3, 1, 1, 0, 0, 1, 1, 1])
        self.assert_bytes("[a + _]", [3, 2, 1, 1, 0, 0])
        self.assert_bytes("{_ a}", [4, 2, 0, 1, 1, 0])
        self.assert_bytes("mirror(_)", [8, 0])
        self.assert_bytes("each(16, a, _)", [9, 16, 1, 1, 0, 0])

    def test_tempos(self):
        self.assert_bytes("_^2", [5, 2, 0])
        self.assert_bytes("_:16", [6, 16, 0])
        self.assert_bytes("_^2:3", [6, 3, 5, 2, 0])
        self.assert_bytes("_:3^2^1", [5, 1, 5, 2, 6, 3, 0])
        self.assert_bytes("(a^2 _):5", [6, 5, 2, 2, 5, 2, 1, 1, 0, 0])

    def test_shifts(self):
        self.assert_bytes("late(1/4, _)", [7, 1, 4, 0])
        self.assert_bytes("late(63/64, _)", [7, 63, 64, 0])
        self.assert_bytes("late(2/4, _)", [7, 1, 2, 0])
        self.assert_bytes("late(48/64, _)", [7, 3, 4, 0])
        self.assert_bytes("late(0/7, _)", [7, 0, 1, 0])

    def test_checksums(self):
        self.assertEqual(encode("mirror(z)"), [67, 8, 1, 1, 25, 102])
        sums = [encode("(zzzzzz " + word + ")")[-1] for word in ("y", "z", "za", "zb")]
        self.assertEqual(sums, [254, 255, 0, 1])
        for many in (20, 59):
            code = encode("(" + "zzzzzzzz " * many + ")")
            self.assertEqual(code, [67, 2, many] + [1, 8, 25, 25, 25, 25, 25, 25, 25, 25] * many
                             + [(69 + many + 209 * many) % 256])

    def test_many_tempos(self):
        self.assert_bytes("a" + "^1:16" * 300, [6, 16, 5, 1] * 300 + [1, 1, 0])

    def test_patterns_at_the_limits(self):
        self.assert_bytes("(" + " ".join("a" * 59) + ")", [2, 59] + [1, 1, 0] * 59)
        self.assert_bytes("mirror(" * 11 + "_" + ")" * 11, [8] * 11 + [0])

    def test_invalid_patterns(self):
        for value in STRANGE + [0, ("a",)]:
            if not isinstance(value, str):
                self.assertEqual(fault_of(encode, value), syntax_fault(0))
        for pattern, fault in (("", syntax_fault(0)), ("(a", syntax_fault(2)), ("a b", syntax_fault(2)),
                               ("a^0", check_fault("number", 2)), ("a^16^16^2", check_fault("events", 0)),
                               ("(" * 12 + "a" + ")" * 12, check_fault("depth", 12)),
                               ("(" + "a " * 60 + ")", check_fault("size", 119))):
            self.assertEqual(fault_of(encode, pattern), fault)

    def test_returned_lists_are_new(self):
        for pattern in ("a", "_", "(a late(1/2, b))^2"):
            code = encode(pattern)
            kept = list(code)
            code.append(5)
            code[0] = 0
            self.assertEqual(encode(pattern), kept)
            code.clear()
            self.assertEqual(encode(pattern), kept)


if __name__ == "__main__":
    unittest.main()
