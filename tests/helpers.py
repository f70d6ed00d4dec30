"""What several tests use."""

from onesymbol.errors import NoSpelling

INT = ("int",)
A = ("path", (("a", None),))
AB = ("path", (("a", None), ("b", None)))


def at_of(function, text):
    """The field `at` of the NoSpelling that the function raises; None if it returns."""
    try:
        function(text)
    except NoSpelling as error:
        return error.at
    return None


class Rude:
    """An object that can't be compared, hashed, measured, tested or shown."""

    def refuse(self, *_):
        raise RuntimeError("rude")

    __eq__ = __ne__ = __lt__ = __le__ = __gt__ = __ge__ = refuse
    __hash__ = __len__ = __bool__ = __iter__ = __getitem__ = __contains__ = refuse
    __str__ = __repr__ = __int__ = __index__ = refuse


IDENTIFIERS = ["int"]

# Objects that are neither a kind nor a spelling, nor an index, nor (but for IDENTIFIERS) identifiers.
STRANGE = [None, True, False, 1.5, -1, -10 ** 99, b"i", b"", [], IDENTIFIERS, {}, {"int": 1}, set(), frozenset(),
           object(), Rude(), len, int, lambda: 1, (), ((),), [("int",)], bytearray(b"i"), ..., 2j, range(3)]
