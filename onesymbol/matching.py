"""Finds the kinds that the parameters of patterns stand for [15] [19]."""

from onesymbol.shapes import head, pairs
from onesymbol.writing import symbol_of_row


def matched(rows, patterns, numbers):
    """Return for each row of the patterns the row that it becomes where they become these rows.

    Returns None if there are not as many, or if no kinds for the parameters do it. The
    parameters of what the patterns become are constants.
    """
    if len(patterns) != len(numbers):
        return None
    todo = list(zip(patterns, numbers))
    became = {}
    while todo:
        pattern, number = todo.pop()
        if pattern in became:
            if became[pattern] != number:
                return None
            continue
        became[pattern] = number
        row = rows.row(pattern)
        other = rows.row(number)
        if row[0] == "parameter":
            if other[0] == "integer":
                return None
        elif head(row) == head(other):
            todo.extend(pairs(row, other))
        else:
            return None
    return became


def symbols_of_parameters(rows, became):
    """Return the symbols of what the parameters became, and None for a number that does not occur."""
    found = {}
    for pattern, number in became.items():
        row = rows.row(pattern)
        if row[0] == "parameter":
            found[int(row[1])] = symbol_of_row(rows, number)
    return [found.get(number) for number in range(max(found, default=-1) + 1)]
