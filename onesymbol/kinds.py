"""Kinds [3] and their plain texts [4]."""

from onesymbol.checking import number_of_kind
from onesymbol.pieces import text_of
from onesymbol.rows import Rows


def plain(kind):
    """Return the plain text of a kind; raises NoKind."""
    rows = Rows()
    return text_of(rows, number_of_kind(rows, kind))
