"""Kinds whose plain texts are far too long to be written out.

They are tuples in which each kind is one object, however often it stands there. So
they are compared and walked through as quickly as their symbols are; they are never
hashed, written out or copied.
"""

from tests import oracle

INT = ("int",)

# The text of a tower is `function (`, a tower, `, `, a tower, `) returning `, a tower.
BEFORE = (len("function ("), len("function (, "), len("function (, ) returning "))


def tower(levels, leaf=INT):
    """A function of a function of ... 3 ** levels leaves."""
    kind = leaf
    for _ in range(levels):
        kind = ("function", (kind, kind), kind)
    return kind


def tower_size(levels, leaf_size=3):
    """The length of the text of a tower."""
    size = leaf_size
    for _ in range(levels):
        size = 3 * size + BEFORE[2]
    return size


def tower_with(route, other, leaf=INT):
    """A tower with another leaf in one place: `route` says, from the top, in which of the three."""
    changed, same = other, leaf
    for place in route[::-1]:
        three = [same, same, same]
        three[place] = changed
        changed = ("function", tuple(three[:2]), three[2])
        same = ("function", (same, same), same)
    return changed


def index_of(route, leaf_size=3):
    """The index at which the leaf of the route begins."""
    index = 0
    for depth, place in enumerate(route):
        index += BEFORE[place] + place * tower_size(len(route) - depth - 1, leaf_size)
    return index


def path_tower(levels, leaf=INT):
    """::a<X, X> of ::a<X, X> of ... 2 ** levels leaves."""
    kind = leaf
    for _ in range(levels):
        kind = ("path", (("a", (kind, kind)),))
    return kind


def path_tower_size(levels, leaf_size=3):
    size = leaf_size
    for _ in range(levels):
        size = 2 * size + len("::a<, >")
    return size


def spelled(*kinds):
    """The symbol of a kind, or of several ones with one numbering."""
    return oracle.canonical(*kinds)


TOWER = tower(45)
BIG = spelled(TOWER)
# Here one leaf far inside is bool.
ROUTE = [1, 2, 0, 1, 1, 0, 2, 2, 1] * 5
BIG_OTHER = spelled(tower_with(ROUTE, ("bool",)))
