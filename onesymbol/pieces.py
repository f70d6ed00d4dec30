"""The pieces of which the plain text of a kind is put together [4]."""

from onesymbol.letters import WRAPPER_LETTERS
from onesymbol.rows import NO_PREFIX

WRAPPER_TEXTS = {"pointer": "pointer to ", "reference": "reference to ", "const": "const "}


def pieces(row):
    """Return the plain text of a row as a list of strings and numbers of rows."""
    word = row[0]
    if word in WRAPPER_LETTERS:
        return [WRAPPER_TEXTS[word], row[1]]
    if word == "parameter":
        return ["$" + row[1]]
    if word == "integer":
        return [row[1]]
    if word == "array":
        return ["array of " + row[1] + " ", row[2]]
    if word == "function":
        return ["function ("] + listed(row[1]) + [") returning ", row[2]]
    if word == "arguments":
        return [row[1], "<"] + listed(row[2]) + [">"]
    if word == "name":
        text = "::" + row[2]
        return [text] if row[1] == NO_PREFIX else [row[1], text]
    return [word]


def listed(numbers):
    """Return the numbers with a comma between two."""
    found = []
    for number in numbers:
        if found:
            found.append(", ")
        found.append(number)
    return found


def text_of(rows, number):
    """Return the plain text of a row."""
    todo = [number]
    found = []
    while todo:
        piece = todo.pop()
        if isinstance(piece, str):
            found.append(piece)
        else:
            todo.extend(pieces(rows.row(piece))[::-1])
    return "".join(found)


def lengths(rows):
    """Return the lengths of the plain texts of all rows, without writing a text."""
    found = []
    for row in rows.table:
        found.append(sum([len(piece) if isinstance(piece, str) else found[piece] for piece in pieces(row)]))
    return found
