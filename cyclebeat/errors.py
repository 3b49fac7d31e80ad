"""The errors that the package raises."""


class BeatError(ValueError):
    """The base class of all errors that the package raises."""


class SyntaxFault(BeatError):
    """A pattern has an invalid token, or a token that does not fit the grammar."""

    def __init__(self, place):
        super().__init__(f"the pattern breaks the grammar at place {place}")
        self.place = place


class CheckFault(BeatError):
    """A pattern fits the grammar, but goes beyond a limit."""

    def __init__(self, reason, place):
        super().__init__(f"the pattern goes beyond a limit at place {place}: {reason}")
        self.reason = reason
        self.place = place


class InvalidCycle(BeatError):
    """A cycle is not an integer within the limits."""


class InvalidTime(BeatError):
    """A time is not a fraction within the limits."""


class InvalidNumber(BeatError):
    """The number of an event is not an integer within the limits."""


class TooLong(BeatError):
    """The events of a pattern may repeat only after too many cycles."""


class InvalidWord(BeatError):
    """A word cannot stand in a pattern."""


class InvalidEvents(BeatError):
    """A list of cycles with events is malformed."""

    def __init__(self, place):
        super().__init__(f"the list of events is invalid at place {place}")
        self.place = place


class InvalidCode(BeatError):
    """A list of bytes is not the code of a pattern."""

    def __init__(self, place):
        super().__init__(f"the code is invalid at place {place}")
        self.place = place


class InvalidName(BeatError):
    """A layer or a snapshot cannot have this name."""


class UnknownName(BeatError):
    """No layer or snapshot has this name."""


class InvalidOperation(BeatError):
    """A list of operations has an entry that is malformed or fails."""

    def __init__(self, place):
        super().__init__(f"the operation at place {place} is invalid")
        self.place = place


class InvalidSession(BeatError):
    """The text of a session has an invalid line."""

    def __init__(self, place):
        super().__init__(f"the session is invalid in line {place}, counted from 0")
        self.place = place
