"""Reads spellings of kinds [7] [8] and of declarations [17]."""

from onesymbol.errors import NoSpelling, TooLong
from onesymbol.letters import WRAPPER_LETTERS
from onesymbol.pieces import lengths
from onesymbol.reader import number_of_spelling, numbers_of_declaration
from onesymbol.rows import NO_PREFIX, Rows
from onesymbol.writing import symbol_of_row

LONGEST_TEXT = 10000


def read(spelling):
    """Return the kind of a spelling; raises NoSpelling, then TooLong."""
    rows = Rows()
    number = number_of_spelling(rows, spelling)
    if lengths(rows)[number] > LONGEST_TEXT:
        raise TooLong("the plain text of the kind has more than 10000 characters")
    values = []
    for row in rows.table:
        values.append(row_value(rows, values, row))
    return kind_value(rows, values, number)


def is_symbol(text):
    """Return whether an object is a canonical spelling."""
    try:
        return canonical(text) == text
    except NoSpelling:
        return False


def canonical(spelling):
    """Return the symbol of the kind of a spelling; raises NoSpelling."""
    rows = Rows()
    return symbol_of_row(rows, number_of_spelling(rows, spelling))


def read_declaration(spelling):
    """Return the symbols of the path and the function of a declaration; raises NoSpelling."""
    rows = Rows()
    path, function = numbers_of_declaration(rows, spelling)
    return symbol_of_row(rows, path), symbol_of_row(rows, function)


def row_value(rows, values, row):
    """Return the tuple of a row; of a path only its last component."""
    word = row[0]
    if word == "integer":
        return int(row[1])
    if word == "parameter":
        return word, int(row[1])
    if word == "array":
        return word, int(row[1]), kind_value(rows, values, row[2])
    if word == "function":
        return word, kind_values(rows, values, row[1]), kind_value(rows, values, row[2])
    if word == "name":
        return row[2], None
    if word == "arguments":
        return values[row[1]][0], kind_values(rows, values, row[2])
    if word in WRAPPER_LETTERS:
        return word, kind_value(rows, values, row[1])
    return row


def kind_values(rows, values, numbers):
    """Return the tuple of the kinds and integers with these numbers."""
    return tuple([kind_value(rows, values, number) for number in numbers])


def kind_value(rows, values, number):
    """Return the kind or the integer with this number."""
    if not rows.is_path(number):
        return values[number]
    components = []
    while number != NO_PREFIX:
        components.append(values[number])
        number = before_component(rows, number)
    return "path", tuple(components[::-1])


def before_component(rows, number):
    """Return the number of a path without its last component."""
    row = rows.row(number)
    if row[0] == "arguments":
        row = rows.row(row[1])
    return row[1]
