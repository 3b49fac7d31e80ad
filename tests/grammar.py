"""A recognizer of the grammar of point 2: it tries all ways to derive the tokens, from a list of rules."""

import re

RULES = {
    "pattern": [["unit", "tempos"]],
    "tempos": [[], ["^", "number", "tempos"], [":", "number", "tempos"]],
    "unit": [
        ["word"],
        ["_"],
        ["(", "pattern", "patterns", ")"],
        ["[", "pattern", "layers", "]"],
        ["{", "pattern", "patterns", "}"],
        ["mirror", "(", "pattern", ")"],
        ["late", "(", "number", "/", "number", ",", "pattern", ")"],
        ["each", "(", "number", ",", "pattern", ",", "pattern", ")"],
    ],
    "patterns": [[], ["pattern", "patterns"]],
    "layers": [[], ["+", "pattern", "layers"]],
}
VALID_TOKEN = re.compile(r"[a-z]{1,8}|0|[1-9][0-9]{0,2}|[_()\[\]{}+^:/,]")
TERMINALS = {"word": r"(?!(mirror|late|each)$)[a-z]+", "number": "[0-9]+"}


def is_valid_token(token):
    return VALID_TOKEN.fullmatch(token) is not None


class Recognizer:
    def __init__(self, tokens):
        self.tokens = tokens
        self.furthest = 0
        self.found = {}

    def ends(self, symbol, at):
        """Return the set of all places where a symbol that begins at a token may end."""
        if (symbol, at) not in self.found:
            self.found[symbol, at] = self.derive(symbol, at)
        return self.found[symbol, at]

    def derive(self, symbol, at):
        if symbol not in RULES:
            self.furthest = max(self.furthest, at)
            pattern = TERMINALS.get(symbol, re.escape(symbol))
            return {at + 1} if at < len(self.tokens) and re.fullmatch(pattern, self.tokens[at]) else set()
        found = set()
        for rule in RULES[symbol]:
            places = {at}
            for part in rule:
                places = {end for place in places for end in self.ends(part, place)}
            found |= places
        return found


def first_misfit(tokens):
    """Return the index of the first token that does not fit, the number of tokens if they end too early, or None.

    No rule is without an end, so the tokens before the furthest one that was tried are the beginning of a pattern.
    """
    recognizer = Recognizer(tokens)
    ends = recognizer.ends("pattern", 0)
    if len(tokens) in ends:
        return None
    return max([recognizer.furthest] + list(ends))


def expected_place(tokens, text, places):
    """Return the place of the SyntaxFault for the text of some tokens, or None."""
    for token, place in zip(tokens, places):
        if not is_valid_token(token):
            return place
    misfit = first_misfit(tokens)
    if misfit is None:
        return None
    return places[misfit] if misfit < len(places) else len(text)
