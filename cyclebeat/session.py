"""Sessions: the operations of a looper as a text."""

from cyclebeat.errors import InvalidSession
from cyclebeat.looper import replay
from cyclebeat.operations import is_operation
from cyclebeat.tokens import DIGITS, is_name

MOST_DIGITS = 2


def format_session(operations):
    """Return the text of some operations, one line for each."""
    # This is for its errors: what can be replayed has a text.
    replay(operations)
    return "\n".join([_format_line(operation) for operation in operations])


def parse_session(text):
    """Return the list of the operations of a text."""
    if not isinstance(text, str):
        raise InvalidSession(0)
    lines = text.split("\n") if text != "" else []
    operations = []
    for place, line in enumerate(lines):
        operation = _parse_line(line)
        if operation is None:
            raise InvalidSession(place)
        operations.append(operation)
    replay(operations)
    return operations


def _format_line(operation):
    if operation[0] == "nudge":
        _, name, time = operation
        return f"nudge {name} {time[0]}/{time[1]}"
    return " ".join(operation)


def _parse_line(line):
    """Return the operation of a line, or None if the line is invalid."""
    # A pattern may contain spaces: it is all that follows the second one.
    words = tuple(line.split(" ", 2))
    if not is_operation(words):
        return None
    if len(words) > 1 and not is_name(words[1]):
        return None
    if words[0] != "nudge":
        return words
    time = _parse_fraction(words[2])
    return None if time is None else ("nudge", words[1], time)


def _parse_fraction(text):
    """Return the numbers of a fraction as they are written, or None if they are not written as they must be."""
    numbers = text.split("/")
    if len(numbers) != 2 or not all([_is_short_number(number) for number in numbers]):
        return None
    return (int(numbers[0]), int(numbers[1]))


def _is_short_number(text):
    if not 1 <= len(text) <= MOST_DIGITS or not all([digit in DIGITS for digit in text]):
        return False
    return text == "0" or text[0] != "0"
