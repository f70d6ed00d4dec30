"""Chooses the function for a call [19]."""

from onesymbol.matching import matched, symbols_of_parameters
from onesymbol.reader import number_of_spelling


class Candidate:
    """A function that a call may mean.

    `pattern` are the numbers of the rows of what it takes, and `became` says what
    rows the rows of the pattern become where it takes the arguments of the call.
    """

    def __init__(self, function, pattern, became):
        self.function = function
        self.pattern = pattern
        self.became = became


def resolved(rows, functions, arguments):
    """Return what a call means: which of the functions, and what their parameters become.

    The functions are symbols, in the order in which they are returned, and the
    arguments are the numbers of rows without parameters.
    """
    candidates = []
    for function in functions:
        pattern = rows.row(number_of_spelling(rows, function))[1]
        became = matched(rows, pattern, arguments)
        if became is not None:
            candidates.append(Candidate(function, pattern, became))
    if not candidates:
        return ("none",)
    best = most_special(rows, candidates)
    if best is None:
        return "several", [candidate.function for candidate in candidates]
    return "one", best.function, symbols_of_parameters(rows, best.became)


def most_special(rows, candidates):
    """Return the only candidate that is at least as special as each of them, or None."""
    best = 0
    # Being at least as special is transitive: what is as special as each one ends up as the best.
    for place in range(1, len(candidates)):
        if is_special(rows, candidates[place], candidates[best]):
            best = place
    for place in range(len(candidates)):
        if place != best and not is_above(rows, candidates[best], candidates[place]):
            return None
    return candidates[best]


def is_above(rows, one, other):
    """Return whether one candidate is more special than another one."""
    return is_special(rows, one, other) and not is_special(rows, other, one)


def is_special(rows, one, other):
    """Return whether one candidate is at least as special as another one."""
    return matched(rows, other.pattern, one.pattern) is not None
