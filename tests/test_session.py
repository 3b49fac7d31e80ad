"""Point 16: the texts of sessions."""

import random
import re
import unittest

from cyclebeat.looper import replay
from cyclebeat.session import format_session, parse_session
from tests.faults import STRANGE, fault_of, invalid_operation, invalid_session
from tests.loops import MALFORMED, NO_LISTS, Model, model_after, random_operation, successful_operations, whole_state

NUMBER = "(0|[1-9][0-9]?)"
LINES = (r"(put) ([a-z]{1,8}) (.*)", r"(remove|mute) ([a-z]{1,8})", "(nudge) ([a-z]{1,8}) " + NUMBER + "/" + NUMBER,
         r"(undo|redo)")
CHARACTERS = "abcelmtuxz 0123456789_()[]{}+^:/,\n\n  ~AZ.-!"


def line_of(operation):
    if operation[0] == "nudge":
        return "nudge " + operation[1] + " " + "/".join(map(str, operation[2]))
    return " ".join(operation)


def operation_of(line):
    """Return the operation of a line, or None if it is invalid."""
    for form in LINES:
        found = re.fullmatch(form, line)
        if found:
            words = found.groups()
            return (*words[:2], (int(words[2]), int(words[3]))) if words[0] == "nudge" else words
    return None


def changed_text(rng, text):
    """Return a text with one change."""
    lines = text.split("\n")
    at = rng.randrange(len(lines))
    way = rng.randrange(9)
    if way == 0:
        del lines[at]
    elif way == 1:
        lines.insert(at, rng.choice(("", "undo", "redo ", "mute a", "remove b", "put a", "put a ", "nudge a 1/2", "x")))
    elif way == 2:
        lines[at] = lines[at].replace(" ", rng.choice(("", "  ")), rng.randint(1, 2))
    elif way == 3:
        other = rng.randrange(len(lines))
        lines[at], lines[other] = lines[other], lines[at]
    elif way == 4:
        lines[at] = re.sub("[0-9]+", rng.choice(("0", "00", "01", "1", "10", "64", "65", "100", "99")), lines[at], 1)
    elif way == 5:
        lines[at] = lines[at].replace(rng.choice("abcelmtu"), rng.choice("abcelmtuA"), 1)
    else:
        text = "\n".join(lines)
        at = rng.randint(0, len(text))
        return text[:at] + rng.choice(("", rng.choice(CHARACTERS))) + text[at + rng.randint(0, 1):]
    return "\n".join(lines)


class SessionCase(unittest.TestCase):
    def check_text(self, text):
        """Check how a text is parsed, and return the name of its error."""
        operations = [operation_of(line) for line in text.split("\n")] if text else []
        model = Model()
        expected = None
        if None in operations:
            expected = invalid_session(operations.index(None))
        else:
            for place, operation in enumerate(operations):
                if expected is None and model.outcome(operation)[1] is not None:
                    expected = invalid_operation(place)
        self.assertEqual(fault_of(parse_session, text), expected, text)
        if expected is None:
            self.assertEqual(parse_session(text), operations)
            self.assertEqual(format_session(operations), text)
        return expected and expected[0]


class RandomSessionTest(SessionCase):
    def setUp(self):
        self.rng = random.Random(160)

    def test_operations_that_succeed(self):
        for _ in range(300):
            operations = successful_operations(self.rng, self.rng.randint(0, 10))
            kept = repr(operations)
            text = format_session(operations)
            self.assertIs(type(text), str)
            self.assertEqual(text, "\n".join(map(line_of, operations)))
            parsed = parse_session(text)
            self.assertEqual(parsed, operations)
            self.assertEqual(repr(parsed), kept)
            self.assertEqual(repr(operations), kept)
            self.assertIsNone(self.check_text(text))

    def test_operations_that_fail(self):
        for _ in range(300):
            operations = [random_operation(self.rng, 0.2) for _ in range(self.rng.randint(1, 10))]
            if self.rng.random() < 0.3:
                operations.insert(self.rng.randint(0, len(operations)), self.rng.choice(MALFORMED))
            fault = fault_of(replay, operations)
            self.assertEqual(fault_of(format_session, operations), fault, operations)
            if fault is None:
                self.assertEqual(parse_session(format_session(operations)), operations)

    def test_changed_texts(self):
        seen = {}
        for _ in range(2500):
            text = "\n".join(map(line_of, successful_operations(self.rng, self.rng.randint(1, 8))))
            for _ in range(self.rng.randint(1, 3)):
                text = changed_text(self.rng, text)
            name = self.check_text(text)
            seen[name] = seen.get(name, 0) + 1
        for name in (None, "InvalidSession", "InvalidOperation"):
            self.assertGreater(seen.get(name, 0), 200, seen)

    def test_texts_of_lines_from_everywhere(self):
        lines = ["", " ", "put", "put ", "put a", "put a ", "put a  ", "put a x", "put  x", "put a  x ", "Put a x",
                 "put a x y", "put a (x", "put A x", "put abcdefgh x", "put abcdefghi x", "remove", "remove ", "mute a",
                 "mute a ", " mute a", "mute  a", "mute a b", "remove a", "nudge a", "nudge a 1", "nudge a 1/2",
                 "nudge a 1/2 ", "nudge a  1/2", "nudge a 1 /2", "nudge a 2/4", "nudge a 0/0", "nudge a 1/100", "undo",
                 "undo ", "undo a", " undo", "redo", "redo\t", "save a", "UNDO", "nudge a 0/1", "nudge a 00/1"]
        for _ in range(1500):
            chosen = [self.rng.choice(lines) for _ in range(self.rng.randint(1, 3))]
            self.check_text("\n".join(["put a x"] * self.rng.randint(0, 1) + chosen))
        for line in lines:
            self.check_text(line)
            self.check_text("put a x\n" + line)
            self.check_text(line + "\nundo")


class SessionTest(SessionCase):
    def assert_invalid(self, text, place):
        self.assertEqual(fault_of(parse_session, text), invalid_session(place), text)

    def test_all_operations(self):
        operations = [("put", "a", "(x y)"), ("put", "late", "z"), ("remove", "late"), ("mute", "a"), ("undo",),
                      ("redo",), ("redo",), ("nudge", "a", (0, 1)), ("nudge", "a", (63, 64))]
        text = ("put a (x y)\nput late z\nremove late\nmute a\nundo\nredo\nredo\nnudge a 0/1\nnudge a 63/64")
        self.assertEqual(format_session(operations), text)
        self.assertEqual(parse_session(text), operations)

    def test_no_operations(self):
        self.assertEqual(format_session([]), "")
        self.assertEqual(parse_session(""), [])

    def test_patterns_are_all_that_follows_the_second_space(self):
        for pattern in ("  x ", " ( x  y ) ", "late( 2/4 , x )", "[a+b]", "a^2 :3"):
            self.assertEqual(format_session([("put", "a", pattern)]), "put a " + pattern)
            self.assertEqual(parse_session("put a " + pattern), [("put", "a", pattern)])

    def test_empty_lines(self):
        self.assert_invalid("\n", 0)
        self.assert_invalid("undo\n", 1)
        self.assert_invalid("\nundo", 0)
        self.assert_invalid("undo\n\nundo", 1)
        self.assert_invalid(" ", 0)

    def test_spaces(self):
        for line in (" undo", "undo ", "mute  a", "mute a ", " mute a", "put  a x", "put a", "put", "nudge a", "undo a",
                     "nudge  a 1/4", "nudge a  1/4", "nudge a 1/4 ", "nudge a 1/ 4", "nudge a", "remove", "remove "):
            self.assert_invalid("put a x\n" + line, 1)

    def test_words(self):
        for line in ("Undo", "undoredo", "UNDO", "play a", "save a", "restore a", "events 0", "layers", "batch",
                     "put,a,x", "mute,a", "und"):
            self.assert_invalid("put a x\n" + line, 1)

    def test_names(self):
        for name in ("A", "a1", "abcdefghi", "_", "a.b", "(a)", "1", "-"):
            for line in ("put " + name + " x", "remove " + name, "mute " + name, "nudge " + name + " 1/4"):
                self.assert_invalid("put a x\n" + line, 1)
        for name in ("late", "each", "mirror", "abcdefgh"):
            text = "put " + name + " x\nmute " + name + "\nnudge " + name + " 1/4\nremove " + name
            self.assertEqual(len(parse_session(text)), 4)

    def test_fractions(self):
        for fraction in ("1", "1/", "/4", "1/4/5", "01/4", "1/04", "00/1", "1/004", "1/100", "100/4", "-1/4", "1/-4",
                         "+1/4", "1.0/4", "a/b", "1 / 4", "1/4x", "x1/4", "(1/4)", "1//4", ""):
            self.assert_invalid("put a x\nnudge a " + fraction, 1)
        for fraction in ("0/0", "1/0", "1/1", "2/4", "5/4", "0/2", "1/65", "64/65", "99/99", "98/99"):
            self.assertEqual(fault_of(parse_session, "put a x\nnudge a " + fraction), invalid_operation(1), fraction)

    def test_patterns_are_not_checked_with_the_lines(self):
        for pattern in ("", " ", "(", "a b", "a^0", "A", "a^16^16^2", "undo a b c", "~"):
            self.assertEqual(fault_of(parse_session, "undo\nput a " + pattern), invalid_operation(1), pattern)
            self.assert_invalid("put a " + pattern + "\nundo\n\nundo", 2)

    def test_invalid_lines_come_before_operations_that_fail(self):
        self.assert_invalid("mute a\nundo\nmute", 2)
        self.assert_invalid("mute a\nmute\nmute", 1)
        self.assertEqual(fault_of(parse_session, "undo\nmute a\nmute b"), invalid_operation(1))
        self.assertEqual(fault_of(parse_session, "put a x\nremove a\nremove a"), invalid_operation(2))

    def test_what_is_no_text(self):
        for value in [value for value in STRANGE if not isinstance(value, str)] + [0, ("undo",), ["undo"], [""]]:
            self.assert_invalid(value, 0)
        for value in ("0", "1/2", "a"):
            self.assert_invalid(value, 0)

    def test_what_is_no_list(self):
        for value in NO_LISTS:
            self.assertEqual(fault_of(format_session, value), invalid_operation(0), value)

    def test_malformed_entries(self):
        for entry in [*MALFORMED, *STRANGE]:
            self.assertEqual(fault_of(format_session, [("undo",), entry, 5]), invalid_operation(1), entry)

    def test_returned_lists_are_new(self):
        text = "put a (x y)\nmute a"
        first = parse_session(text)
        first.append(("undo",))
        first[0] = None
        self.assertEqual(parse_session(text), [("put", "a", "(x y)"), ("mute", "a")])
        empty = parse_session("")
        empty.append(None)
        self.assertEqual(parse_session(""), [])

    def test_kinds_of_values(self):
        operations = parse_session("put a x\nnudge a 1/4\nundo")
        self.assertIs(type(operations), list)
        self.assertEqual([type(operation) for operation in operations], [tuple] * 3)
        self.assertEqual([type(number) for number in operations[1][2]], [int, int])
        self.assertEqual(whole_state(replay(operations)), whole_state(model_after(operations)))


if __name__ == "__main__":
    unittest.main()
