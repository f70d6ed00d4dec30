"""The pieces of which the plain text of a kind is put together [4]."""

from onesymbol.letters import WRAPPER_LETTERS
from onesymbol.rows import NO_PREFIX

WRAPPER_TEXTS = {"pointer": "pointer to ", "reference": "reference to ", "const": "const "}


def pieces(row):
    """Return the plain text of a row as a list of strings and numbers of rows."""
    word = row[0]
    if word in WRAPPER_LETTERS:
        return [WRAPPER_TEXTS[word], row[1]]
    if word == "parameter":
        return ["$" + row[1]]
    if word == "integer":
        return [row[1]]
    if word == "array":
        return ["array of " + row[1] + " ", row[2]]
    if word == "function":
        return ["function ("] + listed(row[1]) + [") returning ", row[2]]
    if word == "arguments":
        return [row[1], "<"] + listed(row[2]) + [">"]
    if word == "name":
        text = "::" + row[2]
        return [text] if row[1] == NO_PREFIX else [row[1], text]
    return [word]


def listed(numbers):
    """Return the numbers with a comma between two."""
    found = []
    for number in numbers:
        if found:
            found.append(", ")
        found.append(number)
    return found


def text_of(rows, number):
    """Return the plain text of a row."""
    todo = [number]
    found = []
    while todo:
        piece = todo.pop()
        if isinstance(piece, str):
            found.append(piece)
        else:
            todo.extend(pieces(rows.row(piece))[::-1])
    return "".join(found)


def inner(row):
    """Return the numbers of the rows in a row, in the order of the plain text."""
    return [piece for piece in pieces(row) if not isinstance(piece, str)]


def summed(rows, own):
    """Return for each row the sum of what it and all rows that are written in its plain text have of their own.

    A row that is written there several times counts as often.
    """
    found = []
    for number in range(len(own)):
        found.append(own[number] + sum([found[one] for one in inner(rows.row(number))]))
    return found


def lengths(rows):
    """Return the lengths of the plain texts of all rows, without writing a text."""
    own = [sum([len(piece) for piece in pieces(row) if isinstance(piece, str)]) for row in rows.table]
    return summed(rows, own)
