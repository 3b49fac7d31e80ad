"""Random trees of patterns, their texts, and what follows from the trees about the texts.

A tree is a tuple: ("word", w), ("rest",), ("seq", trees), ("stack", trees), ("turn", trees), ("mirror", tree),
("late", p, q, tree), ("each", n, tree, tree), ("fast", n, tree) or ("slow", n, tree).
"""

from math import gcd

WORDS = ("a", "b", "c", "x", "kick", "snare", "abcdefgh", "late", "latex", "mirrors", "eac", "each", "mirror")
BRACKETS = {"seq": "()", "stack": "[]", "turn": "{}"}


def random_word(rng):
    word = rng.choice(WORDS)
    return word if word not in ("late", "each", "mirror") else word[1:]


def random_parts(rng, many, share):
    """Split a budget of units into that of `share` items."""
    cuts = sorted(rng.sample(range(1, many), share - 1)) if share > 1 else []
    return [high - low for low, high in zip([0] + cuts, cuts + [many])]


def random_tree(rng, units, depth=12, most=16, shift=64):
    """Return a random tree of at most so many units and levels, numbers up to `most`, and divisors up to `shift`."""
    tree = random_unit(rng, units, depth, most, shift)
    while rng.random() < 0.2:
        tree = (rng.choice(("fast", "slow")), rng.randint(1, most), tree)
    return tree


def random_unit(rng, units, depth, most, shift):
    def inner(many):
        return random_tree(rng, many, depth - 1, most, shift)

    if units < 2 or depth < 2 or rng.random() < 0.1:
        return ("rest",) if rng.random() < 0.15 else ("word", random_word(rng))
    kind = rng.choice(("seq", "seq", "seq", "stack", "stack", "turn", "turn", "mirror", "late", "late", "each"))
    if kind in BRACKETS:
        share = rng.randint(1, min(units - 1, 6))
        return (kind, tuple(inner(many) for many in random_parts(rng, units - 1, share)))
    if kind == "mirror":
        return (kind, inner(units - 1))
    if kind == "late":
        divisor = rng.randint(1, shift)
        return (kind, rng.randrange(divisor), divisor, inner(units - 1))
    if units < 3:
        return ("word", random_word(rng))
    left, right = random_parts(rng, units - 1, 2)
    return (kind, rng.randint(1, most), inner(left), inner(right))


def items(tree):
    """Return the trees directly inside a tree."""
    if tree[0] in BRACKETS:
        return list(tree[1])
    return [part for part in tree[1:] if isinstance(part, tuple)]


def units(tree):
    own = 0 if tree[0] in ("fast", "slow") else 1
    return own + sum(units(item) for item in items(tree))


def levels(tree):
    own = 0 if tree[0] in ("fast", "slow") else 1
    return own + max((levels(item) for item in items(tree)), default=0)


def weight(tree):
    if tree[0] in ("word", "rest"):
        return 1
    weights = [weight(item) for item in items(tree)]
    if tree[0] in ("seq", "stack"):
        return sum(weights)
    if tree[0] == "fast":
        return tree[1] * weights[0]
    return max(weights)


def is_valid(tree):
    return units(tree) <= 60 and levels(tree) <= 12 and weight(tree) <= 500


def valid_tree(rng, *args):
    """Return a random tree within the limits of point 3."""
    while True:
        tree = random_tree(rng, *args)
        if is_valid(tree):
            return tree


def marked_tokens(tree, around=0):
    """Return [token, mark] for all tokens: the mark is the reason why the token may be wrong, or None.

    The mark of a unit's first token is the number of units around it.
    """
    kind = tree[0]
    if kind in ("fast", "slow"):
        reason = None if 1 <= tree[1] <= 16 else "number"
        return marked_tokens(tree[2], around) + [["^" if kind == "fast" else ":", None], [str(tree[1]), reason]]
    if kind in ("word", "rest"):
        return [[tree[1] if kind == "word" else "_", around]]
    parts = [marked_tokens(item, around + 1) for item in items(tree)]
    if kind in BRACKETS:
        begin, end = BRACKETS[kind]
        tokens = [[begin, around]] + parts[0]
        for part in parts[1:]:
            tokens += ([["+", None]] if kind == "stack" else []) + part
        return tokens + [[end, None]]
    head = [[kind, around], ["(", None]]
    if kind == "late":
        reason = None if 0 <= tree[1] < tree[2] <= 64 else "number"
        head += [[str(tree[1]), reason], ["/", None], [str(tree[2]), None], [",", None]]
    if kind == "each":
        head += [[str(tree[1]), None if 1 <= tree[1] <= 16 else "number"], [",", None]]
        return head + parts[0] + [[",", None]] + parts[1] + [[")", None]]
    return head + parts[0] + [[")", None]]


def tokens_of(tree):
    return [token for token, _ in marked_tokens(tree)]


def canonical(tree):
    """Return the canonical text of a tree."""
    texts = [canonical(item) for item in items(tree)]
    kind = tree[0]
    if kind == "word":
        return tree[1]
    if kind == "rest":
        return "_"
    if kind in ("fast", "slow"):
        return texts[0] + ("^" if kind == "fast" else ":") + str(tree[1])
    if kind in BRACKETS:
        return BRACKETS[kind][0] + (" + " if kind == "stack" else " ").join(texts) + BRACKETS[kind][1]
    if kind == "late":
        common = gcd(tree[1], tree[2])
        texts = [str(tree[1] // common) + "/" + str(tree[2] // common)] + texts
    if kind == "each":
        texts = [str(tree[1])] + texts
    return kind + "(" + ", ".join(texts) + ")"


def would_merge(left, right):
    return any(left[-1] in run and right[0] in run for run in ("abcdefghijklmnopqrstuvwxyz", "0123456789"))


def join_tokens(tokens, rng=None):
    """Return the text of some tokens with their places, with random spaces or (without rng) as few as possible."""
    text = ""
    places = []
    for at, token in enumerate(tokens):
        spaces = rng.choice((0, 0, 1, 3)) if rng else 0
        if at and would_merge(tokens[at - 1], token):
            spaces = max(spaces, 1)
        text += " " * spaces
        places.append(len(text))
        text += token
    return text + " " * (rng.choice((0, 0, 2)) if rng else 0), places


def expected_fault(tree, rng=None):
    """Return the text of a tree, and the (reason, place) of the CheckFault that it must raise, or None."""
    text, places = join_tokens(tokens_of(tree), rng)
    return text, first_limit(tree, places)


def first_limit(tree, places):
    """Return the (reason, place) of the first limit that a tree goes beyond, by the places of its tokens, or None."""
    many = 0
    for (_, mark), place in zip(marked_tokens(tree), places):
        if mark == "number":
            return ("number", place)
        if mark is not None:
            many += 1
            if many == 61:
                return ("size", place)
            if mark >= 12:
                return ("depth", place)
    return ("events", 0) if weight(tree) > 500 else None
