"""Unifies kinds [16].

Rows that must become equal are put in one class. Each class has a leader, which is
no parameter if the class has any other row; `leaders` leads to it from the others.
"""

from onesymbol.pieces import inner
from onesymbol.shapes import head, pairs, with_inner


def unified(rows, one, other):
    """Return the number of the most general row that both rows become, or None."""
    leaders = {}
    if not make_equal(rows, leaders, one, other):
        return None
    return row_of_class(rows, leaders, one)


def leader_of(leaders, number):
    """Return the leader of the class of a row."""
    while number in leaders:
        above = leaders[number]
        # A shorter way for the next call: without it the ways may get long.
        leaders[number] = leaders.get(above, above)
        number = above
    return number


def make_equal(rows, leaders, one, other):
    """Put two rows in one class, and those in them, too; return whether they can become equal."""
    todo = [(one, other)]
    while todo:
        left, right = todo.pop()
        left = leader_of(leaders, left)
        right = leader_of(leaders, right)
        if left == right:
            continue
        row = rows.row(left)
        other_row = rows.row(right)
        if becomes(row, other_row):
            leaders[left] = right
        elif becomes(other_row, row):
            leaders[right] = left
        elif head(row) == head(other_row):
            leaders[left] = right
            todo.extend(pairs(row, other_row))
        else:
            return False
    return True


def becomes(row, other):
    """Return whether a row is a parameter that may stand for the other one."""
    return row[0] == "parameter" and other[0] != "integer"


def row_of_class(rows, leaders, root):
    """Return the number of the row that the class of a row becomes, or None if it would have no end.

    The parameters are numbered anew, in the order of the plain text.
    """
    todo = [("begin", root)]
    made = {}
    many = 0
    while todo:
        step, number = todo.pop()
        leader = leader_of(leaders, number)
        row = rows.row(leader)
        if step == "end":
            made[leader] = rows.number(with_inner(row, [made[leader_of(leaders, one)] for one in inner(row)]))
        elif leader in made:
            # What is begun and not made is what this row stands in.
            if made[leader] is None:
                return None
        elif row[0] == "parameter":
            made[leader] = rows.number(("parameter", str(many)))
            many += 1
        else:
            made[leader] = None
            todo.append(("end", leader))
            todo.extend([("begin", one) for one in inner(row)[::-1]])
    return made[leader_of(leaders, root)]
