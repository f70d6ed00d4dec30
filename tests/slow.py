"""The slow program of oracle.py, continued: parts, texts, changes and tables.

It writes every plain text out and walks through every tuple as often as it stands there,
and shares no code with onesymbol.
"""

import re

from tests import oracle


def parts(kind):
    """The different parts of a kind, in the order of its symbol [9]."""
    speller = oracle.Speller(oracle.first)
    speller.spell(kind)
    return [oracle.canonical(part) for part in speller.parts]


def inside(kind):
    """The kinds that stand directly in a kind."""
    if kind[0] == "path":
        return [one for _, arguments in kind[1] for one in arguments or () if isinstance(one, tuple)]
    if kind[0] == "function":
        return [*kind[1], kind[2]]
    return [one for one in kind[1:] if isinstance(one, tuple)]


def occurrences(kind, other):
    return (kind == other) + sum(occurrences(one, other) for one in inside(kind))


def identifier_many(kind, identifier):
    return re.findall("::([A-Za-z0-9_]+)", oracle.plain(kind)).count(identifier)


def first_difference(one, other):
    one, other = oracle.plain(one), oracle.plain(other)
    if one == other:
        return None
    index = 0
    while index < min(len(one), len(other)) and one[index] == other[index]:
        index += 1
    return index


def order(one, other):
    one, other = oracle.plain(one), oracle.plain(other)
    return (one > other) - (one < other)


def changed(kind, change):
    """The kind in which `change` is done to all kinds that stand directly in it."""
    if kind[0] == "path":
        return ("path", tuple(
            (name, arguments and tuple(change(one) if isinstance(one, tuple) else one for one in arguments))
            for name, arguments in kind[1]))
    if kind[0] == "function":
        return ("function", tuple(map(change, kind[1])), change(kind[2]))
    return tuple(change(one) if isinstance(one, tuple) else one for one in kind)


def begins_with(components, names):
    """Whether a path begins with these identifiers [13]."""
    first = components[:len(names)]
    return [name for name, _ in first] == names and all(arguments is None for _, arguments in first[:-1])


def rename(kind, old, new):
    kind = changed(kind, lambda one: rename(one, old, new))
    if kind[0] != "path" or not begins_with(kind[1], old):
        return kind
    last = (new[-1], kind[1][len(old) - 1][1])
    return ("path", tuple((name, None) for name in new[:-1]) + (last,) + kind[1][len(old):])


def substitute(kind, arguments):
    """Substitution by a list or a dict of kinds."""
    if kind[0] == "parameter":
        known = dict(enumerate(arguments)) if isinstance(arguments, list) else arguments
        return known.get(kind[1], kind)
    return changed(kind, lambda one: substitute(one, arguments))


def parameters(kind):
    """The numbers of the parameters, in the order of the plain text."""
    return [int(number) for number in re.findall("[$]([0-9]+)", oracle.plain(kind))]


def bind(pattern, kind, found):
    """Enter in a dict what the parameters of a pattern stand for; returns whether it can be."""
    if not isinstance(pattern, tuple) or not isinstance(kind, tuple):
        return pattern == kind
    if pattern[:1] == ("parameter",):
        return bool(kind) and isinstance(kind[0], str) and found.setdefault(pattern[1], kind) == kind
    return len(pattern) == len(kind) and all(bind(one, other, found) for one, other in zip(pattern, kind))


def match(pattern, kind):
    found = {}
    if not bind(pattern, kind, found):
        return None
    return [found.get(number) for number in range(max(found, default=-1) + 1)]


def unify(one, other):
    """Unification by whole substitutions, one parameter after the other."""
    pairs = [(one, other)]
    result = one
    while pairs:
        left, right = pairs.pop(0)
        if left == right:
            continue
        if not isinstance(left, tuple) or not isinstance(right, tuple):
            return None
        if right[:1] == ("parameter",):
            left, right = right, left
        if left[:1] == ("parameter",):
            if not right or not isinstance(right[0], str) or left[1] in parameters(right):
                return None
            known = {left[1]: right}
            pairs = [(in_all(one, known), in_all(other, known)) for one, other in pairs]
            result = substitute(result, known)
        elif len(left) == len(right):
            pairs = list(zip(left, right)) + pairs
        else:
            return None
    order_of = list(dict.fromkeys(parameters(result)))
    return substitute(result, {number: ("parameter", place) for place, number in enumerate(order_of)})


def in_all(value, known):
    """Substitution in a kind or in anything that stands in one, a tuple of components for example."""
    if not isinstance(value, tuple):
        return value
    if value[:1] == ("parameter",):
        return known.get(value[1], value)
    return tuple(in_all(one, known) for one in value)


def resolve(declarations, path, arguments):
    """Overload resolution [19] among pairs of a path and a function; with kinds instead of symbols."""
    functions = sorted([function for one, function in declarations if one == path], key=oracle.plain)
    candidates = [one for one in functions if match(one[1], tuple(arguments)) is not None]
    best = [one for one in candidates if all(match(other[1], one[1]) is not None for other in candidates)]
    if not candidates:
        return ("none",)
    if len(best) != 1:
        return ("several", candidates)
    return ("one", best[0], match(best[0][1], tuple(arguments)))


def members(declarations, names):
    return sorted({path[1][len(names)][0] for path, _ in declarations
                   if len(path[1]) > len(names) and begins_with(path[1], names)})
