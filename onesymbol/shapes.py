"""Takes rows apart into a head and what stands in it, and puts rows together again."""

from onesymbol.letters import WRAPPER_LETTERS
from onesymbol.pieces import inner, pieces
from onesymbol.rows import NO_PREFIX


def head(row):
    """Return what two rows have in common that differ at most in the rows in them."""
    return [piece if isinstance(piece, str) else None for piece in pieces(row)]


def pairs(row, other):
    """Return the rows in one row, each with the one at the same place in another row with the same head."""
    return list(zip(inner(row), inner(other)))


def with_inner(row, numbers):
    """Return the row with these numbers of rows in it, in the order of the plain text."""
    word = row[0]
    if word in WRAPPER_LETTERS:
        return word, numbers[0]
    if word == "array":
        return word, row[1], numbers[0]
    if word == "function":
        return word, tuple(numbers[:-1]), numbers[-1]
    if word == "arguments":
        return word, numbers[0], tuple(numbers[1:])
    if word == "name":
        return word, (numbers[0] if numbers else NO_PREFIX), row[2]
    return row


def replaced(rows, number, others):
    """Return the number of a row in which other rows stand for some, all at once.

    `others` has their numbers; it is not applied to what it puts in.
    """
    made = dict(others)
    # The rows in a row have lower numbers than the row.
    for old in range(number + 1):
        if old not in made:
            row = rows.row(old)
            made[old] = rows.number(with_inner(row, [made[one] for one in inner(row)]))
    return made[number]
