"""The canonical text of patterns, and their size."""

from cyclebeat.fraction import lowest
from cyclebeat.reader import read_pattern
from cyclebeat.tree import count_units


def format_pattern(pattern):
    """Return the canonical text of a pattern."""
    return format_unit(read_pattern(pattern))


def measure(pattern):
    """Return the number of units of a pattern."""
    return count_units(read_pattern(pattern))


def format_unit(unit):
    """Return the canonical text of a tree."""
    texts = [_format_bare(unit)]
    for sign, number in unit.tempos:
        texts.append(f"{sign}{number}")
    return "".join(texts)


def _format_bare(unit):
    """Return the text of a unit without the `^` and `:` that follow it."""
    texts = [format_unit(part) for part in unit.parts]
    if unit.kind == "word":
        return unit.word
    if unit.kind == "(":
        return "(" + " ".join(texts) + ")"
    if unit.kind == "[":
        return "[" + " + ".join(texts) + "]"
    if unit.kind == "{":
        return "{" + " ".join(texts) + "}"
    if unit.kind == "mirror":
        return f"mirror({texts[0]})"
    if unit.kind == "late":
        shift, divisor = lowest(unit.numbers[0], unit.numbers[1])
        return f"late({shift}/{divisor}, {texts[0]})"
    if unit.kind == "each":
        return f"each({unit.numbers[0]}, {texts[0]}, {texts[1]})"
    return "_"
