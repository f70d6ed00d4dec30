"""The errors of the package."""


class SymbolError(ValueError):
    """Every error of the package derives from this one."""


class NoKind(SymbolError):
    """An object is not a kind."""


class NoSpelling(SymbolError):
    """An object is not a spelling; `at` says how much of it could be one."""

    def __init__(self, why, at=0):
        super().__init__(why)
        self.at = at


class TooLong(SymbolError):
    """The plain text of a kind is too long to be written out."""


class NoIdentifier(SymbolError):
    """An object is not an identifier, or not a list of identifiers."""


class NoIndex(SymbolError):
    """An object is not an index of a plain text."""


class NoArguments(SymbolError):
    """An object is not a list of arguments."""


class NoPath(SymbolError):
    """A kind is not a path."""


class Twice(SymbolError):
    """A table has an equal declaration."""
