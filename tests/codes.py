"""The bytes of trees (see trees.py) by points 12 and 13, without the program."""

from math import gcd

from tests.trees import BRACKETS, items

KINDS = ("rest", "word", "seq", "stack", "turn", "fast", "slow", "late", "mirror", "each")
KEYWORDS = ("mirror", "late", "each")


def bytes_of(tree):
    """Return the bytes of a tree without the first one and the checksum."""
    kind = tree[0]
    own = []
    if kind == "word":
        own = [len(tree[1]), *[ord(letter) - ord("a") for letter in tree[1]]]
    elif kind in BRACKETS:
        own = [len(tree[1])]
    elif kind == "late":
        common = gcd(tree[1], tree[2])
        own = [tree[1] // common, tree[2] // common]
    elif kind in ("fast", "slow", "each"):
        own = [tree[1]]
    return [KINDS.index(kind), *own, *[byte for item in items(tree) for byte in bytes_of(item)]]


def closed(code):
    """Return bytes with their checksum."""
    return [*code, sum(code) % 256]


def code_of(tree):
    return closed([67, *bytes_of(tree)])


def allowed_bytes(step, before):
    """Return the bytes that may stand for a step behind those before them."""
    if step == "sum":
        return [sum(before) % 256]
    if step == "divisor":
        return range(before[-1] + 1, 65)
    return {"first": [67], "pattern": range(10), "length": range(1, 9), "letter": range(26), "size": range(1, 61),
            "number": range(1, 17), "shift": range(64)}[step]


def following_steps(step, byte):
    """Return the steps that a byte opens, in order."""
    if step == "pattern":
        return {"word": ["length"], "seq": ["size"], "stack": ["size"], "turn": ["size"], "fast": ["number", "pattern"],
                "slow": ["number", "pattern"], "late": ["shift", "divisor", "pattern"], "mirror": ["pattern"],
                "each": ["number", "pattern", "pattern"], "rest": []}[KINDS[byte]]
    if step == "length":
        return ["letter"] * byte + ["word"]
    return ["pattern"] * byte if step == "size" else []


def first_wrong(code):
    """Return the place of the first byte that is missing, superfluous or invalid, or None.

    This goes by a list of the steps that are to come, whose last one is the next one.
    """
    steps = ["sum", "pattern", "first"]
    lengths = []
    at = 0
    while steps:
        step = steps.pop()
        if step == "word":
            letters = code[lengths[-1] + 1:at]
            if "".join(chr(ord("a") + letter) for letter in letters) in KEYWORDS:
                return lengths[-1]
            continue
        if at == len(code) or type(code[at]) is not int or code[at] not in allowed_bytes(step, code[:at]):
            return at
        if step == "length":
            lengths.append(at)
        steps += following_steps(step, code[at])[::-1]
        at += 1
    return at if at < len(code) else None


def tree_of(code):
    """Return the tree of bytes in which nothing is wrong."""
    rest = iter(code[1:-1])

    def take():
        kind = KINDS[next(rest)]
        if kind == "word":
            return (kind, "".join(chr(ord("a") + next(rest)) for _ in range(next(rest))))
        if kind in BRACKETS:
            return (kind, tuple(take() for _ in range(next(rest))))
        numbers = [next(rest) for _ in range({"late": 2, "fast": 1, "slow": 1, "each": 1}.get(kind, 0))]
        return (kind, *numbers, *[take() for _ in range({"rest": 0, "each": 2}.get(kind, 1))])

    return take()
