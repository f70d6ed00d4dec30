"""Tables of declarations [18] [19]."""

from onesymbol.checking import identifiers_of
from onesymbol.errors import NoArguments, NoPath, Twice
from onesymbol.reader import number_of_spelling, numbers_of_declaration, numbers_of_list
from onesymbol.resolving import resolved
from onesymbol.rows import NO_PREFIX, Rows
from onesymbol.texts import order
from onesymbol.writing import symbol_of_declaration, symbol_of_row


class Declaration:
    """A declaration in a table.

    It has its symbol, those of its path and its function, each written by itself,
    and the names that lead through its path.
    """

    def __init__(self, rows, path, function):
        self.symbol = symbol_of_declaration(rows, path, function)
        self.path = symbol_of_row(rows, path)
        self.function = symbol_of_row(rows, function)
        self.names = leading_names(rows, path)


def leading_names(rows, path):
    """Return the identifiers of a path, up to the one behind the first component with arguments.

    A list of identifiers leads no further: only its last one may have arguments.
    """
    found = []
    while path != NO_PREFIX:
        row = rows.row(path)
        if row[0] == "arguments":
            # What stands behind these arguments is led to, but nothing behind that.
            found = found[-1:]
        else:
            found.append(row[2])
        path = row[1]
    return found[::-1]


def compared(one, other):
    """Return -1, 0 or 1: how one declaration compares with another one, the paths first."""
    sign = order(one.path, other.path)
    return sign if sign != 0 else order(one.function, other.function)


class Table:
    """Declarations, each at most once, in the order of their plain texts."""

    def __init__(self):
        self.entries = []

    def add(self, spelling):
        """Add a declaration; raises NoSpelling, Twice."""
        rows = Rows()
        path, function = numbers_of_declaration(rows, spelling)
        added = Declaration(rows, path, function)
        low = 0
        high = len(self.entries)
        while low < high:
            middle = (low + high) // 2
            sign = compared(added, self.entries[middle])
            if sign == 0:
                raise Twice("the table has an equal declaration")
            if sign > 0:
                low = middle + 1
            else:
                high = middle
        self.entries.insert(low, added)

    def declarations(self):
        """Return the symbols of all declarations."""
        return [entry.symbol for entry in self.entries]

    def members(self, path):
        """Return the identifiers that follow a list of identifiers in the paths; raises NoIdentifier."""
        wanted = identifiers_of(path)
        many = len(wanted)
        longer = [entry.names for entry in self.entries if len(entry.names) > many]
        return sorted(set([names[many] for names in longer if names[:many] == wanted]))

    def functions(self, path):
        """Return the symbols of the functions with a path; raises NoSpelling, NoPath."""
        rows = Rows()
        number = number_of_spelling(rows, path)
        if not rows.is_path(number):
            raise NoPath("the kind is not a path")
        wanted = symbol_of_row(rows, number)
        return [entry.function for entry in self.entries if entry.path == wanted]

    def resolve(self, path, arguments):
        """Return which function a call with these arguments means.

        Raises NoSpelling, NoPath for the path, and NoArguments, NoSpelling for the arguments.
        """
        functions = self.functions(path)
        rows = Rows()
        numbers = numbers_of_list(rows, arguments)
        if "parameter" in [row[0] for row in rows.table]:
            raise NoArguments("the kinds of the arguments have no parameters")
        return resolved(rows, functions, numbers)
