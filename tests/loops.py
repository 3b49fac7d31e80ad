"""A model of the looper of points 14 and 15, and random operations.

The model keeps the operations in effect, and makes all layers anew from them. An operation is a tuple of its word and
its arguments, as `batch` takes them.
"""

from copy import deepcopy
from fractions import Fraction
from re import fullmatch

from cyclebeat.looper import Looper
from tests.faults import INVALID_NAME, INVALID_TIME, UNKNOWN_NAME, fault_of
from tests.judging import fault_of_pattern
from tests.oracle import as_pair, as_pairs, events_of
from tests.reading import read_tree
from tests.trees import canonical, is_valid, join_tokens, tokens_of, valid_tree

NAMES = ("a", "b", "late", "abcdefgh")
WRONG_NAMES = ("", "A", "a1", "a b", " a", "a ", "abcdefghi", "_", "a\n", "\u00e9", 0, 5, -1, None, True, False, ["a"],
               ("a",), [], (), ("a", "b"), [["a"]])
WRONG_PATTERNS = ("", " ", "(a", "a)", "a b", "a^0", "late(1/1, a)", "a^16^16^2", "(" * 12 + "a" + ")" * 12,
                  "(" + "a " * 60 + ")", "late", "A", "a^", 0, 5, None, True, ["a"], ("a",), [], ())
WRONG_TIMES = ((1, 1), (0, 2), (2, 4), (1, 65), (64, 65), (64, 64), (-1, 4), (1, -4), (-1, -4), (1, 0), (0, 0), (5, 4),
               (0, -1), (True, 2), (False, True), (0, True), (1, 4, 1), (1,), (), 0, 1, None, True, "1/4", "", [1, 4],
               [], [(1, 4)], ((1, 4),), ("1", "4"), (None, 1), ([0], [1]), (10 ** 18, 1), (1, 10 ** 18))

MALFORMED = (5, 0, None, True, "put", "undo", "", [], ["undo"], [("undo",)], (), ((),), ("",), (None,), (5,), (True,),
             ("put",), ("put", "a"), ("put", "a", "x", "y"), ("put a x",), ("put", "a x"), ("Put", "a", "x"),
             ("put ", "a", "x"), ("remove",), ("remove", "a", "b"), ("mute",), ("mute", "a", True), ("nudge",),
             ("nudge", "a"), ("nudge", "a", 1, 4), ("undo", "a"), ("undo", None), ("undo", ()), ("redo", 1), ("undo ",),
             (5, "a"), (["put"], "a", "x"), (("put",), "a", "x"), ("save", "a"), ("restore", "a"), ("batch", []),
             ("events", 0), ("layers",), ("operations",), ("mix",), ["put", "a", "x"], (("undo",), ("redo",)))
NO_LISTS = (None, True, False, 0, 5, -1, "", "undo", "put a x", (), ("undo",), (("undo",),), ("put", "a", "x"))


def is_name(value):
    return isinstance(value, str) and fullmatch("[a-z]{1,8}", value) is not None


def is_time(value):
    if not isinstance(value, tuple) or [type(part) for part in value] != [int, int] or value[1] < 1:
        return False
    return as_pair(Fraction(*value)) == value and 0 <= Fraction(*value) < 1 and value[1] <= 64


class Model:
    def __init__(self):
        self.effective = []
        self.undone = []
        self.saved = {}

    def layers(self):
        found = {}
        for word, name, *rest in self.effective:
            if word == "put":
                found[name] = [rest[0], *found.get(name, [None, (0, 1), False])[1:]]
            elif word == "remove":
                del found[name]
            elif word == "nudge":
                found[name][1] = rest[0]
            else:
                found[name][2] = not found[name][2]
        return [(name, *found[name]) for name in sorted(found)]

    def operations(self):
        return [operation[0] for operation in self.effective]

    def events(self, cycle):
        found = []
        for name, pattern, (shift, divisor), muted in self.layers():
            if not muted:
                tree = ("late", shift, divisor, read_tree(pattern))
                found += [(*event, name) for event in as_pairs(events_of(tree, cycle))]
        return found

    def undo(self):
        if self.effective:
            self.undone.append(self.effective.pop())
            return True
        return False

    def redo(self):
        if self.undone:
            self.effective.append(self.undone.pop())
            return True
        return False

    def fault(self, word, name, *rest):
        """Return the error of an operation, or None."""
        if word == "put":
            return fault_of_pattern(rest[0]) if is_name(name) else INVALID_NAME
        if name not in [layer[0] for layer in self.layers()]:
            return UNKNOWN_NAME
        return INVALID_TIME if word == "nudge" and not is_time(rest[0]) else None

    def outcome(self, operation):
        """Execute an operation, and return its result and its error, of which one or both are None."""
        if operation[0] in ("undo", "redo"):
            return (self.undo() if operation[0] == "undo" else self.redo(), None)
        fault = self.fault(*operation)
        if fault is None:
            self.effective.append(operation)
            self.undone = []
            if operation[0] == "mute":
                return ([layer[3] for layer in self.layers() if layer[0] == operation[1]][0], None)
        return (None, fault)

    def batch(self, operations):
        """Execute operations, all or none, and return their results and the first error."""
        trial = deepcopy(self)
        results = []
        for operation in operations:
            result, fault = trial.outcome(operation)
            if fault is not None:
                return (None, fault)
            results.append(result)
        self.effective, self.undone = trial.effective, trial.undone
        return (results, None)

    def save(self, name):
        self.saved[name] = (list(self.effective), list(self.undone))

    def restore(self, name):
        self.effective, self.undone = map(list, self.saved[name])


def outcome(looper, operation):
    """Execute an operation on a looper, and return its result and its error, of which one or both are None."""
    results = []

    def execute():
        results.append(getattr(looper, operation[0])(*operation[1:]))

    fault = fault_of(execute)
    return (results[0] if results else None, fault)


def whole_state(looper):
    """Return all that a looper (or a model) has, and would have after `undo` and `redo`; then it is as before."""
    def look():
        return (looper.layers(), looper.operations())

    state = [look()]
    past, future = [], []
    while looper.undo():
        past.append(look())
    for _ in past:
        looper.redo()
    state.append(look())
    while looper.redo():
        future.append(look())
    for _ in future:
        looper.undo()
    return [*state, look(), past, future]


def random_pattern(rng, units=6):
    """Return the text of a random valid pattern, often not the canonical one."""
    tree = valid_tree(rng, rng.randint(1, units), 5, rng.choice((2, 5, 16)), rng.choice((4, 12, 64)))
    return canonical(tree) if rng.random() < 0.4 else join_tokens(tokens_of(tree), rng)[0]


def large_pattern(rng):
    """Return the text of a random valid pattern, often with so many units or levels that not much more is allowed."""
    while True:
        tree = (rng.choice(("seq", "stack")), tuple(valid_tree(rng, rng.randint(1, 20)) for _ in range(6)))
        if rng.random() < 0.3:
            tree = rng.choice((("mirror", valid_tree(rng, 40)), ("word", "a"), ("fast", 15, tree)))
        if is_valid(tree):
            return join_tokens(tokens_of(tree), rng)[0]


def random_time(rng):
    divisor = rng.choice((1, 2, 4, 5, 12, 63, 64))
    return as_pair(Fraction(rng.choice((0, divisor - 1, rng.randrange(divisor))), divisor))


def random_operation(rng, wrong=0.1, names=NAMES):
    """Return a random operation of the right form; `wrong` is about the share of wrong names, patterns and times."""
    word = rng.choice(("put",) * 5 + ("mute", "nudge", "redo") * 2 + ("undo",) * 3 + ("remove",))
    if word in ("undo", "redo"):
        return (word,)
    name = rng.choice(WRONG_NAMES) if rng.random() < wrong else rng.choice(names)
    if word == "put":
        return (word, name, rng.choice(WRONG_PATTERNS) if rng.random() < wrong else random_pattern(rng))
    if word == "nudge":
        return (word, name, rng.choice(WRONG_TIMES) if rng.random() < wrong else random_time(rng))
    return (word, name)


def successful_operations(rng, many, names=NAMES):
    """Return random operations that succeed one after another."""
    model = Model()
    found = []
    while len(found) < many:
        operation = random_operation(rng, 0, names)
        if model.outcome(operation)[1] is None:
            found.append(operation)
    return found


def model_after(operations):
    """Return a model after some operations, of which some may fail."""
    model = Model()
    for operation in operations:
        model.outcome(operation)
    return model


def looper_after(operations):
    """Return a looper after some operations, of which some may fail."""
    looper = Looper()
    for operation in operations:
        outcome(looper, operation)
    return looper
