"""Writes symbols: the canonical spellings of kinds [6] and declarations [17]."""

from onesymbol.checking import number_of_kind
from onesymbol.errors import NoKind
from onesymbol.letters import BUILTIN_LETTERS, WRAPPER_LETTERS
from onesymbol.rows import NO_PREFIX, Rows


def symbol(kind):
    """Return the symbol of a kind; raises NoKind."""
    rows = Rows()
    return symbol_of_row(rows, number_of_kind(rows, kind))


def declaration_symbol(path, function):
    """Return the symbol of a declaration; raises NoKind, also for kinds of another form."""
    rows = Rows()
    path_number = number_of_kind(rows, path)
    if not rows.is_path(path_number):
        raise NoKind("a declaration begins with a path")
    function_number = number_of_kind(rows, function)
    if rows.row(function_number)[0] != "function":
        raise NoKind("a declaration ends with a function")
    return symbol_of_declaration(rows, path_number, function_number)


def symbol_of_row(rows, number):
    """Return the symbol of the kind that has this number."""
    return written(rows, [("kind", number)])[0]


def symbol_of_declaration(rows, path_number, function_number):
    """Return the symbol of the declaration of these two kinds."""
    return written(rows, [("text", "Q"), ("kind", path_number), ("kind", function_number)])[0]


def written(rows, steps):
    """Return the text that the steps write, with one numbering of parts for all of them, and the parts.

    The parts are a dict, in the order in which they are completed: for each the
    number that it gets, and the length of the text up to where it is completed.
    """
    todo = steps[::-1]
    done = {}
    found = []
    size = 0
    while todo:
        step, value = todo.pop()
        if step == "text":
            found.append(value)
            size += len(value)
        elif step == "done":
            done[value] = (len(done), size)
        elif value in done:
            todo.append(("text", back_reference(done, value)))
        else:
            todo.extend(kind_steps(rows, done, value)[::-1])
    return "".join(found), done


def back_reference(done, number):
    """Return the back reference to a part that is done."""
    return "Z" + str(len(done) - done[number][0]) + "_"


def kind_steps(rows, done, number):
    """Return the steps that write a kind or an integer, and complete the parts in it."""
    row = rows.row(number)
    word = row[0]
    if word in BUILTIN_LETTERS:
        return [("text", BUILTIN_LETTERS[word])]
    if word == "parameter":
        return [("text", "q" + row[1] + "_")]
    if word == "integer":
        return [("text", "L" + row[1] + "_")]
    if rows.is_path(number):
        return path_steps(rows, done, number)
    if word in WRAPPER_LETTERS:
        inner = [("text", WRAPPER_LETTERS[word]), ("kind", row[1])]
    elif word == "array":
        inner = [("text", "A" + row[1] + "_"), ("kind", row[2])]
    else:
        inner = enclosed("F", row[1]) + [("kind", row[2])]
    return inner + [("done", number)]


def enclosed(letter, numbers):
    """Return the steps that write kinds between a letter and an E."""
    return [("text", letter)] + [("kind", number) for number in numbers] + [("text", "E")]


def path_steps(rows, done, number):
    """Return the steps that write a path, from its longest prefix that is done."""
    prefixes = []
    while number != NO_PREFIX and number not in done:
        prefixes.append(number)
        number = rows.row(number)[1]
    found = [("text", "N")]
    if number != NO_PREFIX:
        found.append(("text", back_reference(done, number)))
    for prefix in prefixes[::-1]:
        row = rows.row(prefix)
        if row[0] == "name":
            found.append(("text", str(len(row[2])) + row[2]))
        else:
            found.extend(enclosed("I", row[2]))
        found.append(("done", prefix))
    return found + [("text", "E")]
