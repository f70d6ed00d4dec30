"""Plain texts of any length: their lengths, characters and sections [11], and their order [12].

No text is written out: the lengths of the rows say which of them need not be looked into.
"""

from onesymbol.checking import is_integer
from onesymbol.errors import NoIndex
from onesymbol.pieces import lengths, pieces
from onesymbol.reader import number_of_spelling
from onesymbol.rows import Rows

LONGEST_SECTION = 1000

# Stands behind the end of each text that is compared. It is less than each character of a
# text, and so a text is less than those that go on.
END = "\n"


def length(spelling):
    """Return the length of the plain text; raises NoSpelling."""
    rows = Rows()
    number = number_of_spelling(rows, spelling)
    return lengths(rows)[number]


def character(spelling, index):
    """Return the character at an index of the plain text; raises NoSpelling, NoIndex."""
    rows = Rows()
    number = number_of_spelling(rows, spelling)
    sizes = lengths(rows)
    if not is_integer(index, 0) or index >= sizes[number]:
        raise NoIndex("the index is not an integer within the text")
    return stretch(rows, sizes, number, index, index + 1)


def section(spelling, begin, end):
    """Return the characters from `begin` up to but not including `end`; raises NoSpelling, NoIndex."""
    rows = Rows()
    number = number_of_spelling(rows, spelling)
    sizes = lengths(rows)
    if not is_integer(begin, 0) or begin > sizes[number]:
        raise NoIndex("the section does not begin at an integer within the text")
    if not is_integer(end, begin) or end > sizes[number]:
        raise NoIndex("the section does not end at an integer within the text, behind its beginning")
    if end - begin > LONGEST_SECTION:
        raise NoIndex("the section has more than 1000 characters")
    return stretch(rows, sizes, number, begin, end)


def stretch(rows, sizes, number, begin, end):
    """Return the characters from `begin` to `end` of the plain text of a row."""
    todo = [number]
    found = []
    at = 0
    while todo and at < end:
        piece = todo.pop()
        after = at + (len(piece) if isinstance(piece, str) else sizes[piece])
        if after <= begin:
            at = after
        elif isinstance(piece, str):
            found.append(piece[max(0, begin - at):end - at])
            at = after
        else:
            todo.extend(pieces(rows.row(piece))[::-1])
    return "".join(found)


def first_difference(one, other):
    """Return the least index at which the plain texts differ, or None; raises NoSpelling."""
    rows = Rows()
    number = number_of_spelling(rows, one)
    other_number = number_of_spelling(rows, other)
    if number == other_number:
        return None
    return difference(rows, number, other_number)[0]


def order(one, other):
    """Return -1, 0 or 1: how the plain text of `one` compares with that of `other`; raises NoSpelling."""
    rows = Rows()
    number = number_of_spelling(rows, one)
    other_number = number_of_spelling(rows, other)
    if number == other_number:
        return 0
    _, character_here, character_there = difference(rows, number, other_number)
    return -1 if character_here < character_there else 1


def difference(rows, one, other):
    """Return the least index at which the texts of two different rows differ, and both characters there.

    Up to the difference both texts are made of the same kinds. So two different rows at
    the same index have the difference in them or directly behind the shorter one, unless
    one is a path and the other one a prefix of it. To find that prefix, the longer row
    is looked into first; equal rows are passed over, and no text is read twice.
    """
    sizes = lengths(rows)
    here = [END, one]
    there = [END, other]
    index = 0
    while True:
        piece = here.pop()
        other_piece = there.pop()
        if piece == other_piece:
            index += len(piece) if isinstance(piece, str) else sizes[piece]
        elif goes_first(sizes, piece, other_piece):
            here.extend(pieces(rows.row(piece))[::-1])
            there.append(other_piece)
        elif not isinstance(other_piece, str):
            here.append(piece)
            there.extend(pieces(rows.row(other_piece))[::-1])
        else:
            many = common(piece, other_piece)
            index += many
            if many < min(len(piece), len(other_piece)):
                return index, piece[many], other_piece[many]
            put_back(here, piece[many:])
            put_back(there, other_piece[many:])


def goes_first(sizes, piece, other_piece):
    """Return whether a piece is a row that is looked into before the other piece."""
    if isinstance(piece, str):
        return False
    return isinstance(other_piece, str) or sizes[piece] >= sizes[other_piece]


def common(text, other):
    """Return the number of characters with which both strings begin."""
    many = 0
    while many < min(len(text), len(other)) and text[many] == other[many]:
        many += 1
    return many


def put_back(todo, text):
    """Put back what is left of a string."""
    if text:
        todo.append(text)
