"""Splits the text of a pattern into tokens."""

from cyclebeat.errors import SyntaxFault

LETTERS = "abcdefghijklmnopqrstuvwxyz"
DIGITS = "0123456789"
SIGNS = "_()[]{}+^:/,"
KEYWORDS = ("mirror", "late", "each")
LONGEST_WORD = 8
LONGEST_NUMBER = 3


def split_tokens(pattern):
    """Return the tokens as a list of (text, place); an empty text marks the end of the pattern."""
    tokens = []
    at = 0
    while at < len(pattern):
        end = _end_of_token(pattern, at)
        text = pattern[at:end]
        if text != " ":
            if not _is_token(text):
                raise SyntaxFault(at)
            tokens.append((text, at))
        at = end
    tokens.append(("", len(pattern)))
    return tokens


def is_word(text):
    """Return whether the text of a token is a word, not a keyword."""
    return text != "" and text[0] in LETTERS and text not in KEYWORDS


def is_name(value):
    """Return whether any value is a string of one to eight letters; a keyword is one, too."""
    if not isinstance(value, str) or not 1 <= len(value) <= LONGEST_WORD:
        return False
    return all([letter in LETTERS for letter in value])


def is_free_word(value):
    """Return whether any value is a word that may stand in a pattern."""
    return is_name(value) and value not in KEYWORDS


def is_number(text):
    """Return whether the text of a token is a number."""
    return text != "" and text[0] in DIGITS


def _end_of_token(pattern, at):
    for signs in (LETTERS, DIGITS):
        end = _end_of_run(pattern, at, signs)
        if end > at:
            return end
    return at + 1


def _end_of_run(pattern, at, signs):
    end = at
    while end < len(pattern) and pattern[end] in signs:
        end += 1
    return end


def _is_token(text):
    if text[0] in LETTERS:
        return len(text) <= LONGEST_WORD
    if text[0] in DIGITS:
        return text == "0" or (text[0] != "0" and len(text) <= LONGEST_NUMBER)
    return text in SIGNS
