"""Other forms of trees (see trees.py) that have the same events by the rules of point 5."""

from fractions import Fraction

from tests.oracle import events_of
from tests.tables import bound_of, with_items
from tests.trees import BRACKETS, is_valid, items, valid_tree

REST = ("rest",)


def wrapped_form(rng, tree):
    """Return a tree within something that changes no events."""
    number = rng.randint(1, 5)
    other = rng.choice((REST, ("word", "z"), ("turn", (("word", "x"), REST))))
    return rng.choice((
        ("seq", (tree,)), ("stack", (tree,)), ("turn", (tree,)), ("stack", (tree, REST)), ("stack", (REST, tree, REST)),
        ("stack", (("mirror", REST), tree)), ("mirror", ("mirror", tree)), ("fast", number, ("slow", number, tree)),
        ("slow", number, ("fast", number, tree)), ("fast", 1, tree), ("slow", 1, tree), ("late", 0, number, tree),
        ("each", 1, tree, other), ("each", number, tree, tree), ("each", number + 1, tree, ("seq", (tree,)))))


def split_number(rng, tree):
    """Write a `^`, `:` or `late` as two of them, or two as one."""
    kind, number, inner = tree[0], tree[1], tree[-1]
    if kind == "late":
        shift = Fraction(number, tree[2])
        if inner[0] == "late" and shift + Fraction(*inner[1:3]) < 1:
            total = shift + Fraction(*inner[1:3])
            if total.denominator <= 64:
                return ("late", total.numerator, total.denominator, inner[3])
        first = rng.randint(0, number)
        return ("late", first, tree[2], ("late", number - first, tree[2], inner))
    if inner[0] == kind and number * inner[1] <= 16:
        return (kind, number * inner[1], inner[2])
    factors = [factor for factor in range(1, number + 1) if number % factor == 0]
    factor = rng.choice(factors)
    return (kind, factor, (kind, number // factor, inner))


def moved_inwards(rng, tree):
    """Apply a `^`, `:`, `late` or `mirror` to the items of what it stands around, where this is the same."""
    inner = tree[-1]
    if inner[0] == "stack" or (tree[0] == "mirror" and inner[0] in ("turn", "each")):
        return with_items(inner, [(*tree[:-1], item) for item in items(inner)])
    return tree


def other_brackets(rng, tree):
    """Write a sequence as turns or turns as a sequence, divide `[ ]`, or change the order of its items."""
    kind, inner = tree
    if kind == "seq":
        return ("fast", len(inner), ("turn", inner)) if len(inner) <= 16 else tree
    if kind == "turn":
        return ("slow", len(inner), ("seq", inner)) if len(inner) <= 16 else tree
    shuffled = list(inner)
    rng.shuffle(shuffled)
    cut = rng.randint(0, len(shuffled))
    if 0 < cut < len(shuffled) and rng.random() < 0.5:
        return ("stack", (("stack", tuple(shuffled[:cut])), *shuffled[cut:]))
    return ("stack", tuple(shuffled))


def other_each(rng, tree):
    """Write an `each` as two of them that are silent in turn."""
    return ("stack", (("each", tree[1], tree[2], REST), ("each", tree[1], REST, tree[3])))


def repeated(rng, tree):
    """Write a `^` of what is the same in each cycle as a sequence."""
    _, number, inner = tree
    if bound_of(inner) == 1 and number <= 5:
        return ("seq", (inner,) * number)
    return tree


def changed_form(rng, tree):
    """Return another form of a tree by one rule at its top."""
    kind = tree[0]
    ways = [wrapped_form]
    if kind in ("fast", "slow", "late"):
        ways += [split_number, moved_inwards]
    if kind == "fast":
        ways += [repeated]
    if kind == "mirror":
        ways += [moved_inwards]
    if kind == "each":
        ways += [other_each]
    if kind in BRACKETS:
        ways += [other_brackets, other_brackets]
    return rng.choice(ways)(rng, tree)


def other_form(rng, tree):
    """Return another form of a tree by one rule anywhere within it."""
    inner = items(tree)
    if not inner or rng.random() < 0.3:
        return changed_form(rng, tree)
    at = rng.randrange(len(inner))
    return with_items(tree, inner[:at] + [other_form(rng, inner[at])] + inner[at + 1:])


def far_form(rng, tree, steps, most_cycles=1000):
    """Return a valid form of a tree after many such steps, with a bound that is not too large."""
    for _ in range(steps):
        following = other_form(rng, tree)
        if is_valid(following) and bound_of(following) <= most_cycles:
            tree = following
    return tree


def silenced(rng, tree, share=0.3):
    """Return a tree with some of its words replaced by rests."""
    if tree[0] == "word":
        return REST if rng.random() < share else tree
    return with_items(tree, [silenced(rng, item, share) for item in items(tree)])


def same_events(first, second, cycles):
    return all(events_of(first, cycle) == events_of(second, cycle) for cycle in cycles)


def wordy_tree(rng, *args):
    """Return a random valid tree with some rests."""
    return silenced(rng, valid_tree(rng, *args))
