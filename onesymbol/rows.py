"""Kinds as numbered rows of a table.

A kind stands in the table once, in however many places it is used, so the
table stays small even where the plain text is too long to be written out.

The rows, where inner, result, before and name are numbers of rows, parameters
and arguments are tuples of such numbers, and digits are strings:

    ("int",) and the other builtin kinds
    ("parameter", digits)
    ("pointer", inner), ("reference", inner), ("const", inner)
    ("array", digits, inner)
    ("function", parameters, result)
    ("name", before, identifier)    the path `before`, and a component without arguments
    ("arguments", name, arguments)  the path `name`, whose last component gets arguments
    ("integer", digits)             an argument that is no kind

So each prefix of a path that is a part has a row of its own.
"""

# Stands for the path before the first component, which has no row.
NO_PREFIX = -1

PATH_WORDS = ("name", "arguments")


class Rows:
    """A table of rows; equal rows have the same number."""

    def __init__(self):
        self.table = []
        self.numbers = {}

    def number(self, row):
        """Return the number of a row; it is above the numbers that the row contains."""
        if row not in self.numbers:
            self.numbers[row] = len(self.table)
            self.table.append(row)
        return self.numbers[row]

    def row(self, number):
        """Return the row with this number."""
        return self.table[number]

    def is_path(self, number):
        """Return whether the row is that of a path."""
        return self.table[number][0] in PATH_WORDS
