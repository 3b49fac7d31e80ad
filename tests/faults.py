"""What the tests of several files ask of calls that raise an error."""

from cyclebeat import errors

# Values of the kinds that point 1 names, none of which is a cycle, a fraction or a pattern.
STRANGE = [True, False, None, "", "0", "1/2", "a", -1, 10 ** 18 + 1, -(10 ** 18), (), (0,), (0, 1, 1), [], [0], [0, 1],
           ["a"], [[0, 1]], ((0, 1),), ((0, 1), (1, 1)), (0, 0), (1, 0), (0, 2), (2, 4), (3, 3), (0, -1), (-1, -2),
           (-1, 2), (1, -2), (True, 1), (1, True), (False, True), (None, 1), (1, None), ("1", "2"), ("a", 1), (1, "2"),
           (10 ** 18 + 1, 1), (10 ** 18 * 7 + 1, 7), ([0], [1]), ([], 1), ((0, 1), 1), (1, (1, 2))]


def fault_of(function, *arguments):
    """Return the error of a call as its name and attributes, or None if it raises no error of the package."""
    try:
        function(*arguments)
    except errors.BeatError as error:
        return (type(error).__name__, vars(error))
    return None


def syntax_fault(place):
    return ("SyntaxFault", {"place": place})


def check_fault(reason, place):
    return ("CheckFault", {"reason": reason, "place": place})


INVALID_CYCLE = ("InvalidCycle", {})
INVALID_TIME = ("InvalidTime", {})
INVALID_NUMBER = ("InvalidNumber", {})
INVALID_WORD = ("InvalidWord", {})
TOO_LONG = ("TooLong", {})


INVALID_NAME = ("InvalidName", {})
UNKNOWN_NAME = ("UnknownName", {})


def invalid_events(place):
    return ("InvalidEvents", {"place": place})


def invalid_code(place):
    return ("InvalidCode", {"place": place})


def invalid_operation(place):
    return ("InvalidOperation", {"place": place})


def invalid_session(place):
    return ("InvalidSession", {"place": place})
