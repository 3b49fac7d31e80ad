"""What is wrong with the text of any pattern, by points 2 and 3 and without the program."""

import re
from functools import lru_cache

from tests.faults import check_fault, syntax_fault
from tests.grammar import expected_place
from tests.reading import read_tree
from tests.trees import first_limit


@lru_cache(maxsize=20000)
def fault_of_text(text):
    """Return the error that a text raises as fault_of does, or None."""
    found = list(re.finditer(r"[a-z]+|[0-9]+|[^ ]", text))
    places = [token.start() for token in found]
    misfit = expected_place([token.group() for token in found], text, places)
    if misfit is not None:
        return syntax_fault(misfit)
    limit = first_limit(read_tree(text), places)
    return limit and check_fault(*limit)


def fault_of_pattern(value):
    """Return the error that any value raises as a pattern, or None."""
    return fault_of_text(value) if isinstance(value, str) else syntax_fault(0)
