"""Changes kinds: renaming [13], substitution [14], matching [15] and unification [16]."""

from onesymbol.checking import identifiers_of
from onesymbol.errors import NoIdentifier
from onesymbol.matching import matched, symbols_of_parameters
from onesymbol.reader import number_of_spelling, numbers_of_list
from onesymbol.rows import NO_PREFIX, Rows
from onesymbol.shapes import replaced
from onesymbol.unifying import unified
from onesymbol.writing import symbol_of_row


def rename(spelling, old, new):
    """Return the symbol of the kind whose paths begin with `new` instead of `old`.

    Raises NoSpelling, NoIdentifier.
    """
    rows = Rows()
    number = number_of_spelling(rows, spelling)
    old_number = number_of_identifiers(rows, old)
    new_number = number_of_identifiers(rows, new)
    return symbol_of_row(rows, replaced(rows, number, {old_number: new_number}))


def number_of_identifiers(rows, identifiers):
    """Enter the path of these identifiers and return its number; raises NoIdentifier."""
    number = NO_PREFIX
    for identifier in identifiers_of(identifiers):
        number = rows.number(("name", number, identifier))
    if number == NO_PREFIX:
        raise NoIdentifier("the list of identifiers is empty")
    return number


def substitute(spelling, arguments):
    """Return the symbol of the kind with the arguments for the first parameters.

    Raises NoSpelling, NoArguments.
    """
    rows = Rows()
    number = number_of_spelling(rows, spelling)
    argument_numbers = numbers_of_list(rows, arguments)
    others = {}
    for index, argument_number in enumerate(argument_numbers):
        others[rows.number(("parameter", str(index)))] = argument_number
    return symbol_of_row(rows, replaced(rows, number, others))


def match(pattern, spelling):
    """Return the symbols of the arguments that make `pattern` the kind of `spelling`, or None.

    Raises NoSpelling.
    """
    rows = Rows()
    pattern_number = number_of_spelling(rows, pattern)
    number = number_of_spelling(rows, spelling)
    became = matched(rows, [pattern_number], [number])
    return None if became is None else symbols_of_parameters(rows, became)


def unify(one, other):
    """Return the symbol of the most general kind that both can become, or None; raises NoSpelling."""
    rows = Rows()
    number = number_of_spelling(rows, one)
    other_number = number_of_spelling(rows, other)
    made = unified(rows, number, other_number)
    return None if made is None else symbol_of_row(rows, made)
