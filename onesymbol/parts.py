"""The parts of a kind [9], and how often kinds and identifiers occur [10]."""

from onesymbol.checking import identifier_of
from onesymbol.pieces import inner, summed
from onesymbol.reader import number_of_spelling
from onesymbol.rows import NO_PREFIX, Rows
from onesymbol.writing import written


def parts(spelling):
    """Return the symbols of all different parts, in the order of the symbol; raises NoSpelling."""
    rows = Rows()
    number = number_of_spelling(rows, spelling)
    done = written(rows, [("kind", number)])[1]
    symbols = {}
    # A path is completed behind its prefixes, whose symbols it gives, too.
    for part in list(done)[::-1]:
        if part not in symbols:
            enter_symbols(rows, part, symbols)
    return [symbols[part] for part in done]


def enter_symbols(rows, part, symbols):
    """Enter the symbol of a part and, if it is a path, those of its prefixes."""
    text, done = written(rows, [("kind", part)])
    symbols[part] = text
    while part != NO_PREFIX and rows.is_path(part):
        # The symbol of a prefix begins like that of the path: nothing is completed before them.
        symbols[part] = text[:done[part][1]] + "E"
        part = rows.row(part)[1]


def occurrences(spelling, other):
    """Return how often the kind of `other` occurs in the kind of `spelling`; raises NoSpelling."""
    rows = Rows()
    number = number_of_spelling(rows, spelling)
    wanted = number_of_spelling(rows, other)
    own = [occurring(row).count(wanted) for row in rows.table]
    return summed(rows, own)[number] + (1 if number == wanted else 0)


def occurring(row):
    """Return the numbers of the rows that occur in a row; a prefix of a path does not."""
    if row[0] == "name":
        return []
    if row[0] == "arguments":
        return list(row[2])
    return inner(row)


def identifier_many(spelling, identifier):
    """Return how often an identifier stands in the plain text; raises NoSpelling, NoIdentifier."""
    rows = Rows()
    number = number_of_spelling(rows, spelling)
    wanted = identifier_of(identifier)
    own = [1 if row[0] == "name" and row[2] == wanted else 0 for row in rows.table]
    return summed(rows, own)[number]
