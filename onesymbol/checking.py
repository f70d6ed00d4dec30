"""Checks whether objects are kinds [3], integers and identifiers, and enters kinds in a table of rows.

Nothing here calls itself: the kinds that are still to be done stand in a list,
so that no depth of nesting exceeds the depth of calls that Python allows.
"""

from onesymbol.errors import NoIdentifier, NoKind
from onesymbol.letters import BUILTIN_LETTERS, IDENTIFIER_BEGIN, IDENTIFIER_LETTERS
from onesymbol.letters import LONGEST_IDENTIFIER, WRAPPER_LETTERS
from onesymbol.rows import NO_PREFIX


def is_integer(value, least):
    """Return whether an object is an integer that is not below `least`."""
    return isinstance(value, int) and not isinstance(value, bool) and value >= least


def is_identifier(value):
    """Return whether an object is an identifier [3]."""
    if not isinstance(value, str) or not 1 <= len(value) <= LONGEST_IDENTIFIER:
        return False
    if value[0] not in IDENTIFIER_BEGIN:
        return False
    return all([letter in IDENTIFIER_LETTERS for letter in value])


def identifier_of(value):
    """Return an identifier as a plain string; raises NoIdentifier."""
    if not is_identifier(value):
        raise NoIdentifier("an identifier is a string of 1 to 30 letters, digits and underscores")
    return string_of(value)


def identifiers_of(value):
    """Return the identifiers of a list, as a new list; raises NoIdentifier."""
    if not isinstance(value, list):
        raise NoIdentifier("identifiers stand in a list")
    return [identifier_of(item) for item in value]


def digits_of(value):
    """Return an integer in decimal."""
    # An object of a class under int may be shown in a way of its own.
    return str(int(value))


def string_of(value):
    """Return a string of the same characters that is no object of a class under str."""
    # Such an object, a word of an enumeration for example, may be found in no dict.
    return "".join([value])


def number_of_kind(rows, kind):
    """Enter a kind in the rows and return its number; raises NoKind."""
    todo = [("kind", kind)]
    made = []
    while todo:
        step, value = todo.pop()
        if step == "kind":
            todo.extend(steps(value)[::-1])
        else:
            make(rows, made, step, value)
    return made[0]


def steps(kind):
    """Return what makes the row of a kind, step by step: its inner kinds come first."""
    if not isinstance(kind, tuple) or not kind or not isinstance(kind[0], str):
        raise NoKind("a kind is a tuple that begins with a word")
    word = string_of(kind[0])
    size = len(kind)
    if word in BUILTIN_LETTERS and size == 1:
        return [("row", (word,))]
    if word in WRAPPER_LETTERS and size == 2:
        return [("kind", kind[1]), ("wrap", (word,))]
    if word == "parameter" and size == 2 and is_integer(kind[1], 0):
        return [("row", (word, digits_of(kind[1])))]
    if word == "array" and size == 3 and is_integer(kind[1], 1):
        return [("kind", kind[2]), ("wrap", (word, digits_of(kind[1])))]
    if word == "function" and size == 3 and isinstance(kind[1], tuple):
        inner = [("kind", parameter) for parameter in kind[1]]
        return inner + [("kind", kind[2]), ("function", len(kind[1]))]
    if word == "path" and size == 2:
        return path_steps(kind[1])
    raise NoKind("the items of the tuple are not those of a kind")


def path_steps(components):
    """Return the steps for the components of a path."""
    if not isinstance(components, tuple) or not components:
        raise NoKind("the components of a path are a tuple that is not empty")
    found = [("begin", NO_PREFIX)]
    for component in components:
        if not isinstance(component, tuple) or len(component) != 2:
            raise NoKind("a component is a tuple of an identifier and arguments")
        identifier, arguments = component
        if not is_identifier(identifier):
            raise NoKind("a component begins with an identifier")
        found.append(("name", string_of(identifier)))
        if arguments is not None:
            found.extend(argument_steps(arguments))
    return found


def argument_steps(arguments):
    """Return the steps for the arguments of a component."""
    if not isinstance(arguments, tuple) or not arguments:
        raise NoKind("arguments are None or a tuple that is not empty")
    found = []
    for argument in arguments:
        if is_integer(argument, 0):
            found.append(("row", ("integer", digits_of(argument))))
        else:
            found.append(("kind", argument))
    return found + [("arguments", len(arguments))]


def make(rows, made, step, value):
    """Take a step: what the rows before have made becomes part of the next row."""
    if step == "row":
        made.append(rows.number(value))
    elif step == "wrap":
        made.append(rows.number(value + (made.pop(),)))
    elif step == "begin":
        made.append(value)
    elif step == "name":
        made.append(rows.number((step, made.pop(), value)))
    elif step == "function":
        result = made.pop()
        made.append(rows.number((step, last_ones(made, value), result)))
    else:
        arguments = last_ones(made, value)
        made.append(rows.number((step, made.pop(), arguments)))


def last_ones(made, many):
    """Remove the last items of a list and return them."""
    begin = len(made) - many
    found = tuple(made[begin:])
    del made[begin:]
    return found
