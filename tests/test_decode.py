"""Point 13: the errors of lists that are no patterns."""

import random
import unittest

from cyclebeat.encoding import decode, encode
from tests.codes import closed, code_of, first_wrong, tree_of
from tests.faults import check_fault, fault_of, invalid_code
from tests.judging import fault_of_text
from tests.trees import canonical, random_tree, valid_tree

NO_BYTES = (-1, 256, 1000, 10 ** 18, True, False, None, "", "a", "0", [], [67], (), (0,))


def changed_code(rng, code):
    """Return bytes with one change; more often than not, the checksum is right after it."""
    found = list(code)
    at = rng.randrange(len(found))
    way = rng.randrange(6)
    if way == 0:
        found = found[:at]
    elif way == 1:
        found = found + [rng.randrange(256) for _ in range(rng.randint(1, 3))]
    elif way == 2:
        found.insert(at, rng.randrange(12))
    elif way == 3:
        del found[at]
    else:
        found[at] = rng.choice((rng.randrange(256), rng.randrange(12), rng.randrange(70), rng.choice(NO_BYTES)))
    if rng.random() < 0.6 and found and all(type(byte) is int for byte in found):
        found = closed(found[:-1])
    return found


class RandomDecodeTest(unittest.TestCase):
    def setUp(self):
        self.rng = random.Random(130)
        self.seen = {}

    def check(self, code):
        kept = repr(code)
        fault = fault_of(decode, code)
        self.assertEqual(repr(code), kept)
        place = first_wrong(code)
        if place is not None:
            self.assertEqual(fault, invalid_code(place), code)
        else:
            text = canonical(tree_of(code))
            self.assertEqual(fault, fault_of_text(text), code)
            if fault is None:
                self.assertEqual(decode(code), text)
        name = fault and (fault[0] if place is not None else fault[1]["reason"])
        self.seen[name] = self.seen.get(name, 0) + 1

    def test_changed_codes(self):
        for _ in range(4000):
            code = code_of(valid_tree(self.rng, self.rng.choice((2, 6, 20))))
            for _ in range(self.rng.randint(1, 3)):
                code = changed_code(self.rng, code) or code
            self.check(code)
        self.assertGreater(self.seen["InvalidCode"], 1000)
        self.assertGreater(self.seen[None], 100)

    def test_all_cuts(self):
        for _ in range(60):
            code = code_of(valid_tree(self.rng, 12))
            for end in range(len(code)):
                # What is cut has its first missing byte where it ends: no byte before it becomes invalid.
                self.assertEqual(fault_of(decode, code[:end]), invalid_code(end), code[:end])

    def test_all_extensions(self):
        for _ in range(200):
            code = code_of(valid_tree(self.rng, 12))
            for more in ([0], [67], [code[-1]], [2 * code[-1] % 256], [None], [256], [0, 0], code):
                self.assertEqual(fault_of(decode, code + more), invalid_code(len(code)), code + more)

    def test_no_bytes_at_all_places(self):
        for _ in range(60):
            code = code_of(valid_tree(self.rng, 8))
            for at in range(len(code)):
                for value in NO_BYTES:
                    self.assertEqual(fault_of(decode, code[:at] + [value] + code[at + 1:]), invalid_code(at))

    def test_random_bytes(self):
        for _ in range(3000):
            self.check(closed([67, *[self.rng.choice((0, 1, 2, 3, 4, 5, 6, 7, 8, 9, self.rng.randrange(70)))
                                     for _ in range(self.rng.randint(0, 12))]]))

    def test_patterns_beyond_the_limits(self):
        for _ in range(900):
            tree = random_tree(self.rng, self.rng.choice((20, 55, 65, 90)), self.rng.choice((12, 16, 30)),
                               self.rng.choice((2, 4, 16)))
            for _ in range(self.rng.choice((0, 0, 9))):
                tree = self.rng.choice((("mirror", tree), ("seq", (tree,)), ("late", 2, 4, tree)))
            self.check(code_of(tree))
        for reason in ("size", "depth", "events", None):
            self.assertGreater(self.seen.get(reason, 0), 15, self.seen)


class DecodeTest(unittest.TestCase):
    def assert_wrong(self, inner, place):
        """Check bytes that are wrong at a place, with what may follow there."""
        for code in ([67, *inner], closed([67, *inner]), closed([67, *inner, 0]), closed([67, *inner, 0, 0, 0])):
            self.assertEqual(fault_of(decode, code), invalid_code(place), code)

    def assert_pattern(self, inner, pattern):
        self.assertEqual(decode(closed([67, *inner])), pattern)

    def test_what_is_no_list(self):
        for value in (None, True, 0, 67, "", "C", (), (67, 0, 67), tuple(encode("a")), "67"):
            self.assertEqual(fault_of(decode, value), invalid_code(0))

    def test_first_bytes(self):
        self.assertEqual(fault_of(decode, []), invalid_code(0))
        for byte in (0, 66, 68, 255, -1, 256, None, True, "C", [67]):
            self.assertEqual(fault_of(decode, [byte, 0, byte]), invalid_code(0))
        self.assertEqual(fault_of(decode, [67]), invalid_code(1))

    def test_codes(self):
        for byte in (10, 11, 67, 255):
            self.assert_wrong([byte], 1)
            self.assert_wrong([2, 2, 0, byte], 4)

    def test_words(self):
        for length in (0, 9, 26, 255):
            self.assert_wrong([1, length], 2)
        for letter in (26, 27, 97, 255):
            self.assert_wrong([1, 2, 0, letter], 4)
        self.assert_pattern([1, 8] + [25] * 8, "zzzzzzzz")

    def test_keywords(self):
        for word in ("mirror", "late", "each"):
            letters = [ord(letter) - ord("a") for letter in word]
            self.assert_wrong([1, len(word), *letters], 2)
            self.assert_wrong([2, 2, 0, 1, len(word), *letters], 5)
            # This is noticed only after all letters: those that are missing or invalid come first.
            self.assertEqual(fault_of(decode, [67, 1, len(word), *letters[:-1]]), invalid_code(2 + len(word)))
            self.assert_wrong([1, len(word), *letters[:-1], 26], 2 + len(word))
            self.assert_wrong([1, len(word), 26, *letters[1:]], 3)
            self.assert_pattern([1, len(word) + 1, *letters, 0], word + "a")
            self.assert_pattern([1, len(word) - 1, *letters[:-1]], word[:-1])
            # All that comes behind its letters is looked at only later.
            self.assertEqual(fault_of(decode, [67, 2, 2, 1, len(word), *letters]), invalid_code(4))
            self.assertEqual(fault_of(decode, [67, 1, len(word), *letters, 0, 0, None]), invalid_code(2))

    def test_numbers_of_items(self):
        for kind in (2, 3, 4):
            for many in (0, 61, 255):
                self.assert_wrong([kind, many], 2)
            self.assertEqual(fault_of(decode, closed([67, kind, 60] + [0] * 60))[0], "CheckFault")
        self.assert_pattern([2, 59] + [0] * 59, "(" + " ".join("_" * 59) + ")")
        self.assertEqual(fault_of(decode, [67, 4, 60] + [0] * 59), invalid_code(62))

    def test_numbers(self):
        for kind in (5, 6, 9):
            for number in (0, 17, 255):
                self.assert_wrong([kind, number], 2)
        self.assert_pattern([5, 16, 0], "_^16")
        self.assert_pattern([6, 1, 0], "_:1")
        self.assert_pattern([9, 16, 0, 0], "each(16, _, _)")

    def test_shifts(self):
        for number in (64, 65, 255):
            self.assert_wrong([7, number, 64], 2)
        for number, divisor in ((0, 0), (1, 0), (1, 1), (2, 1), (5, 5), (63, 63), (63, 65), (0, 65), (1, 255)):
            self.assert_wrong([7, number, divisor], 3)
        self.assert_pattern([7, 63, 64, 0], "late(63/64, _)")
        self.assert_pattern([7, 0, 1, 0], "late(0/1, _)")
        self.assert_pattern([7, 2, 4, 0], "late(1/2, _)")
        self.assert_pattern([7, 0, 64, 0], "late(0/1, _)")

    def test_checksums(self):
        for code in (encode("a"), encode("(a b)^2"), encode("(" + "z " * 59 + ")")):
            for step in (1, 17, 255):
                wrong = code[:-1] + [(code[-1] + step) % 256]
                self.assertEqual(fault_of(decode, wrong), invalid_code(len(code) - 1))
                self.assertEqual(fault_of(decode, wrong + [0]), invalid_code(len(code) - 1))
            self.assertEqual(fault_of(decode, code[:-1] + [code[-1] + 256]), invalid_code(len(code) - 1))

    def test_limits_come_after_all_bytes(self):
        deep = [8] * 12 + [0]
        self.assertEqual(fault_of(decode, closed([67, *deep])), check_fault("depth", 84))
        self.assertEqual(fault_of(decode, [67, *deep]), invalid_code(14))
        self.assertEqual(fault_of(decode, closed([67, *deep]) + [0]), invalid_code(15))
        self.assertEqual(fault_of(decode, closed([67, 5, 16, 5, 16, 5, 2, 0])), check_fault("events", 0))
        self.assertEqual(fault_of(decode, closed([67, 2, 60] + [0] * 60)), check_fault("size", 119))
        self.assertEqual(fault_of(decode, closed([67, 3, 60] + [0] * 60)), check_fault("size", 1 + 59 * 4))

    def test_deep_patterns(self):
        for kind, text in (([8], "mirror("), ([2, 1], "("), ([7, 2, 4], "late(1/2, "), ([9, 3, 0], "each(3, _, ")):
            for around in (12, 40, 60):
                code = closed([67, *kind * around, 0])
                self.assertEqual(fault_of(decode, code), fault_of_text(text * around + "_" + ")" * around))
        self.assertEqual(decode(closed([67, *[6, 2] * 500, 0])), "_" + ":2" * 500)

    def test_the_places_are_those_of_the_canonical_pattern(self):
        # The fraction 32/64 is 1/2 in the canonical text, in which the last rest is the sixty-first unit.
        code = closed([67, 2, 3, 7, 32, 64, 0, 2, 55] + [0] * 55 + [2, 1, 0])
        text = "(late(1/2, _) (" + " ".join("_" * 55) + ") (_))"
        self.assertEqual(fault_of(decode, code), check_fault("size", text.rindex("_")))


if __name__ == "__main__":
    unittest.main()
