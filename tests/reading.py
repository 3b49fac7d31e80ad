"""Reads canonical texts as trees (see trees.py), without the program."""

import re

KINDS = {"(": "seq", "[": "stack", "{": "turn"}
CLOSED = {"(": ")", "[": "]", "{": "}"}


class Reading:
    def __init__(self, text):
        self.tokens = re.findall(r"[a-z]+|[0-9]+|[^ ]", text)
        self.at = 0

    def take(self):
        self.at += 1
        return self.tokens[self.at - 1]

    def sees(self, *tokens):
        return self.at < len(self.tokens) and self.tokens[self.at] in tokens

    def pattern(self):
        tree = self.unit()
        while self.sees("^", ":"):
            kind = "fast" if self.take() == "^" else "slow"
            tree = (kind, int(self.take()), tree)
        return tree

    def unit(self):
        token = self.take()
        if token in KINDS:
            parts = []
            while not self.sees(CLOSED[token]):
                if self.sees("+"):
                    self.take()
                parts.append(self.pattern())
            self.take()
            return (KINDS[token], tuple(parts))
        if token in ("mirror", "late", "each"):
            return (token, *self.arguments())
        return ("rest",) if token == "_" else ("word", token)

    def arguments(self):
        found = []
        while self.take() != ")":
            found.append(int(self.take()) if self.tokens[self.at].isdigit() else self.pattern())
        return found


def read_tree(text):
    """Return the tree of a canonical text."""
    return Reading(text).pattern()
