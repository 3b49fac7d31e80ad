"""The operations of a looper as tuples of a word and its arguments."""

ARGUMENTS = {"put": 2, "remove": 1, "mute": 1, "nudge": 2, "undo": 0, "redo": 0}


def is_operation(value):
    """Return whether any value is a tuple of the word of an operation and the right number of arguments."""
    if not isinstance(value, tuple) or not value:
        return False
    word = value[0]
    # Only a string is looked up: what is no string may be a list, which no dict takes as a key.
    return isinstance(word, str) and word in ARGUMENTS and len(value) == 1 + ARGUMENTS[word]
