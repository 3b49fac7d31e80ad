"""The tree of a pattern."""


class Unit:
    """A unit, with all `^` and `:` that follow it.

    The kind is "word", or the text of the unit's first token: "_", "(", "[", "{", "mirror", "late" or "each".
    The numbers are (p, q) of a `late` as they were written, and (n,) of an `each`.
    The tempos are tuples such as ("^", 2), in the order of the text. They are kept in a list, not as units
    around units: a text has room for a thousand of them, and functions go down the tree by recursion.
    """

    def __init__(self, kind, word="", numbers=(), parts=(), tempos=()):
        self.kind = kind
        self.word = word
        self.numbers = numbers
        self.parts = list(parts)
        self.tempos = list(tempos)


def count_units(unit):
    """Return the number of units of a tree."""
    return 1 + sum([count_units(part) for part in unit.parts])


def speed(unit):
    """Return the products (fast, slow) of the numbers after `^` and after `:`.

    Both stretch all times evenly from the time 0, so that their order does not matter.
    """
    fast = 1
    slow = 1
    for sign, number in unit.tempos:
        if sign == "^":
            fast = fast * number
        else:
            slow = slow * number
    return (fast, slow)


def weigh(unit):
    """Return the weight of a tree."""
    fast, _ = speed(unit)
    if unit.kind in ("word", "_"):
        return fast
    weights = [weigh(part) for part in unit.parts]
    if unit.kind in ("(", "["):
        return fast * sum(weights)
    return fast * max(weights)
