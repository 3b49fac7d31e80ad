"""Simplifies patterns.

Each rule gets a unit with its items as they are simplified, and returns a tree for the unit without regard to its `^`
and `:`. It builds new trees: the trees that are passed stay as they are.
"""

from cyclebeat.checker import LARGEST_DIVISOR, LARGEST_NUMBER
from cyclebeat.comparison import are_alike
from cyclebeat.formatter import format_unit
from cyclebeat.fraction import lowest
from cyclebeat.reader import read_pattern
from cyclebeat.tree import Unit, count_units


def simplify(pattern):
    """Return a canonical pattern with the same events and not more units."""
    return format_unit(simplify_unit(read_pattern(pattern)))


def simplify_unit(unit):
    """Return a tree with the same events and not more units."""
    rule = RULES[unit.kind]
    core = rule(unit, [simplify_unit(part) for part in unit.parts])
    if core.kind == "_":
        return core
    # An item that stands now for the unit around it has `^` and `:` of its own, which come first.
    tempos = _join_tempos(core.tempos + unit.tempos)
    return Unit(core.kind, word=core.word, numbers=core.numbers, parts=core.parts, tempos=tempos)


def _join_tempos(tempos):
    """Return `^` and `:` with the same effect, of which no two adjacent ones can be joined."""
    joined = []
    for sign, number in tempos:
        left = number
        while joined and _can_join(joined[-1], sign, left):
            before, other = joined.pop()
            left = left * other if before == sign else 1
        if left > 1:
            joined.append((sign, left))
    return joined


def _can_join(tempo, sign, number):
    """Return whether a `^` or `:` and the next one make a single one, or none at all."""
    before, other = tempo
    if before == sign:
        return other * number <= LARGEST_NUMBER
    return other == number


def _is_bare(unit, kind):
    return unit.kind == kind and unit.tempos == []


def _word_rule(unit, parts):
    return Unit("word", word=unit.word)


def _rest_rule(unit, parts):
    return Unit("_")


def _row_rule(unit, parts):
    if all([part.kind == "_" for part in parts]):
        return Unit("_")
    if len(parts) == 1:
        return parts[0]
    return Unit(unit.kind, parts=parts)


def _stack_rule(unit, parts):
    layers = []
    for part in parts:
        if _is_bare(part, "["):
            layers.extend(part.parts)
        elif part.kind != "_":
            layers.append(part)
    return _row_rule(unit, layers)


def _mirror_rule(unit, parts):
    inner = parts[0]
    if inner.kind == "_":
        return inner
    if _is_bare(inner, "mirror"):
        return inner.parts[0]
    return Unit("mirror", parts=parts)


def _late_rule(unit, parts):
    inner = parts[0]
    shift, divisor = lowest(unit.numbers[0], unit.numbers[1])
    while _is_bare(inner, "late"):
        more, other = inner.numbers
        total, common = lowest(shift * other + more * divisor, divisor * other)
        if total >= common or common > LARGEST_DIVISOR:
            break
        shift, divisor = total, common
        inner = inner.parts[0]
    if shift == 0 or inner.kind == "_":
        return inner
    return Unit("late", numbers=(shift, divisor), parts=[inner])


def _each_rule(unit, parts):
    if unit.numbers[0] == 1:
        return parts[0]
    if are_alike(parts[0], parts[1]):
        return min(parts, key=count_units)
    return Unit("each", numbers=unit.numbers, parts=parts)


RULES = {
    "word": _word_rule,
    "_": _rest_rule,
    "(": _row_rule,
    "[": _stack_rule,
    "{": _row_rule,
    "late": _late_rule,
    "mirror": _mirror_rule,
    "each": _each_rule,
}
