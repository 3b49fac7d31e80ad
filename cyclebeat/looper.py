"""A looper: layers of patterns with undo and snapshots."""

from cyclebeat.errors import BeatError, InvalidCycle, InvalidName, InvalidOperation, InvalidTime, UnknownName
from cyclebeat.formatter import format_pattern
from cyclebeat.moments import is_cycle, is_offset
from cyclebeat.operations import is_operation
from cyclebeat.reader import read_pattern
from cyclebeat.table import list_cycle
from cyclebeat.tokens import is_name
from cyclebeat.tree import Unit

NOT_SHIFTED = (0, 1)


class Looper:
    """Layers of patterns, and the operations that made them.

    The steps are tuples (word of an operation, layers after it): as many as are done are in effect, and the ones
    behind them are those that `redo` would repeat. Layers are tuples (pattern, time, whether it is muted) in a dict by
    their names. Neither a list of steps nor a dict of layers is ever modified, so that snapshots may keep them.
    """

    def __init__(self):
        self.steps = []
        self.done = 0
        self.snapshots = {}

    def put(self, name, pattern):
        """Put a pattern on a layer."""
        _check_name(name)
        read_pattern(pattern)
        _, time, muted = self._present().get(name, (pattern, NOT_SHIFTED, False))
        self._replace("put", name, (pattern, time, muted))

    def remove(self, name):
        """Remove a layer."""
        present = self._present()
        _find(present, name)
        self._add_step("remove", {other: present[other] for other in present if other != name})

    def mute(self, name):
        """Mute a layer or end this, and return whether it is muted now."""
        pattern, time, muted = _find(self._present(), name)
        self._replace("mute", name, (pattern, time, not muted))
        return not muted

    def nudge(self, name, time):
        """Replace the time by which a layer is shifted."""
        pattern, _, muted = _find(self._present(), name)
        if not is_offset(time):
            raise InvalidTime("the time is not a fraction from 0 to less than 1 with a denominator of at most 64")
        self._replace("nudge", name, (pattern, time, muted))

    def undo(self):
        """Undo the last operation in effect, and return whether there was one."""
        if self.done == 0:
            return False
        self.done -= 1
        return True

    def redo(self):
        """Repeat the operation that was undone last, and return whether there was one."""
        if self.done == len(self.steps):
            return False
        self.done += 1
        return True

    def events(self, cycle):
        """Return (offset, length, word, name) of the events of all layers in a cycle, layer by layer."""
        if not is_cycle(cycle):
            raise InvalidCycle("the cycle is not an integer from 0 to 10 ** 18")
        found = []
        for name, pattern, time, muted in self.layers():
            if not muted:
                # No text is made of this: a layer may be as deep and as large as patterns may be.
                unit = Unit("late", numbers=time, parts=[read_pattern(pattern)])
                found.extend([(*event, name) for event in list_cycle(unit, cycle)])
        return found

    def mix(self):
        """Return a pattern with the events of all layers that are not muted."""
        texts = [_shifted_text(pattern, time) for _, pattern, time, muted in self.layers() if not muted]
        if not texts:
            return "_"
        return format_pattern("[" + " + ".join(texts) + "]")

    def layers(self):
        """Return (name, pattern, time, whether it is muted) of all layers, sorted by name."""
        present = self._present()
        return [(name, *present[name]) for name in sorted(present)]

    def operations(self):
        """Return the words of all operations in effect, in order."""
        return [word for word, _ in self.steps[:self.done]]

    def save(self, name):
        """Save the complete state under a name."""
        _check_name(name)
        self.snapshots[name] = (self.steps, self.done)

    def restore(self, name):
        """Return to the state that was saved under a name."""
        self.steps, self.done = _find(self.snapshots, name)

    def batch(self, operations):
        """Execute all operations of a list, or none if one fails, and return the list of their results."""
        _check_operations(operations)
        before = (self.steps, self.done)
        results = []
        try:
            for operation in operations:
                results.append(_execute(self, operation))
        except BeatError:
            self.steps, self.done = before
            raise
        return results

    def _present(self):
        """Return the layers as they are now."""
        if self.done == 0:
            return {}
        _, present = self.steps[self.done - 1]
        return present

    def _replace(self, word, name, layer):
        """Add the step of an operation that gives a name this layer."""
        present = self._present()
        self._add_step(word, {**present, name: layer})

    def _add_step(self, word, layers):
        """Add a step behind those in effect; the undone ones can be repeated no more."""
        self.steps = self.steps[:self.done] + [(word, layers)]
        self.done += 1


def replay(operations):
    """Return a new looper on which all operations of a list were executed."""
    if not isinstance(operations, list):
        raise InvalidOperation(0)
    looper = Looper()
    for place, operation in enumerate(operations):
        if not is_operation(operation):
            raise InvalidOperation(place)
        try:
            _execute(looper, operation)
        except BeatError:
            raise InvalidOperation(place)
    return looper


def _execute(looper, operation):
    """Execute an operation of the right form, and return its result."""
    word = operation[0]
    if word == "put":
        return looper.put(operation[1], operation[2])
    if word == "remove":
        return looper.remove(operation[1])
    if word == "mute":
        return looper.mute(operation[1])
    if word == "nudge":
        return looper.nudge(operation[1], operation[2])
    if word == "undo":
        return looper.undo()
    return looper.redo()


def _check_name(name):
    if not is_name(name):
        raise InvalidName("the name is not one to eight letters a to z")


def _find(table, name):
    """Return what a dict has under a name, which may be any value."""
    if not is_name(name) or name not in table:
        raise UnknownName("there is nothing of this name")
    return table[name]


def _check_operations(operations):
    if not isinstance(operations, list):
        raise InvalidOperation(0)
    for place, operation in enumerate(operations):
        if not is_operation(operation):
            raise InvalidOperation(place)


def _shifted_text(pattern, time):
    """Return the text of a pattern within a `late`, if it is shifted."""
    if time == NOT_SHIFTED:
        return pattern
    return f"late({time[0]}/{time[1]}, {pattern})"
