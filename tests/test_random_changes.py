"""The program and the slow one say the same of the parts, texts, changes and tables of many kinds."""

import random
import unittest

from onesymbol import changes, parts, table, texts
from tests import oracle, slow


def spelled(chance, *kinds):
    """A spelling of the kinds, with one numbering, canonical or not."""
    speller = oracle.Speller(chance.choice)
    return "".join([speller.spell(kind) for kind in kinds])


def symbol_or_none(kind):
    return None if kind is None else oracle.canonical(kind)


def somewhere(chance, kind, change, rate):
    """The kind with some kinds in it changed."""
    if chance.random() < rate:
        return change(kind)
    return slow.changed(kind, lambda one: somewhere(chance, one, change, rate))


class RandomChangesTest(unittest.TestCase):

    def kinds(self, seed, many, depth=5):
        """Random kinds that are not too long, each with a chance for what comes next."""
        chance = random.Random(seed)
        while many:
            kind = oracle.random_kind(chance, chance.randrange(depth + 1))
            if len(oracle.plain(kind)) <= 3000:
                many -= 1
                yield chance, kind

    def alike(self, seed, many, depth=4):
        """Random pairs of kinds, many of which differ in few places."""
        for chance, kind in self.kinds(seed, many, depth):
            other = somewhere(chance, kind, lambda one: oracle.random_kind(chance, 1), chance.choice([0.02, 0.1, 0.3]))
            yield chance, kind, other

    def test_parts(self):
        for chance, kind in self.kinds(11, 2000):
            self.assertEqual(parts.parts(spelled(chance, kind)), slow.parts(kind))

    def test_occurrences(self):
        for chance, kind in self.kinds(12, 1500):
            inner = kind
            while slow.inside(inner) and chance.randrange(4):
                inner = chance.choice(slow.inside(inner))
            for other in [inner, oracle.random_kind(chance, 1), ("path", (("a", None),))]:
                self.assertEqual(parts.occurrences(spelled(chance, kind), spelled(chance, other)),
                                 slow.occurrences(kind, other))
            for name in ["a", "aa", "b", "int", "c"]:
                self.assertEqual(parts.identifier_many(spelled(chance, kind), name), slow.identifier_many(kind, name))

    def test_texts(self):
        for chance, kind in self.kinds(13, 1500):
            text = oracle.plain(kind)
            self.assertEqual(texts.length(spelled(chance, kind)), len(text))
            for _ in range(5):
                begin = chance.randrange(len(text))
                end = min(begin + chance.randrange(1001), chance.randrange(begin, len(text) + 1))
                self.assertEqual(texts.character(spelled(chance, kind), begin), text[begin])
                self.assertEqual(texts.section(spelled(chance, kind), begin, end), text[begin:end])

    def test_order(self):
        for chance, kind, other in self.alike(14, 4000):
            for one, two in [(kind, other), (other, kind)]:
                spellings = spelled(chance, one), spelled(chance, two)
                self.assertEqual(texts.first_difference(*spellings), slow.first_difference(one, two), spellings)
                self.assertEqual(texts.order(*spellings), slow.order(one, two), spellings)

    def test_rename(self):
        for chance, kind in self.kinds(15, 3000):
            old = [chance.choice(["a", "b", "c", "aa"]) for _ in range(chance.choice([1, 1, 2, 3]))]
            new = [chance.choice(["a", "b", "z", "int"]) for _ in range(chance.choice([1, 2, 3]))]
            self.assertEqual(changes.rename(spelled(chance, kind), old, new), oracle.canonical(slow.rename(kind, old, new)))

    def test_substitute(self):
        for chance, kind in self.kinds(16, 2000, 4):
            arguments = [oracle.random_kind(chance, 2) for _ in range(chance.randrange(14))]
            self.assertEqual(changes.substitute(spelled(chance, kind), [spelled(chance, one) for one in arguments]),
                             oracle.canonical(slow.substitute(kind, arguments)))

    def test_match(self):
        found = 0
        for chance, pattern, other in self.alike(17, 3000, 3):
            arguments = [oracle.random_kind(chance, 2) for _ in range(12)]
            for kind in [slow.substitute(pattern, arguments), slow.substitute(other, arguments), other]:
                expected = slow.match(pattern, kind)
                found += expected is not None
                expected = expected and [symbol_or_none(one) for one in expected]
                self.assertEqual(changes.match(spelled(chance, pattern), spelled(chance, kind)), expected)
        self.assertGreater(found, 3000)
        self.assertLess(found, 8000)

    def test_unify(self):
        found = 0
        for chance, kind in self.kinds(18, 4000, 4):
            def make(_):
                return chance.choice([("parameter", chance.randrange(5)), ("pointer", ("parameter", chance.randrange(5)))])
            one = somewhere(chance, kind, make, 0.3)
            other = somewhere(chance, kind, make, 0.3)
            expected = slow.unify(one, other)
            found += expected is not None
            for left, right in [(one, other), (other, one)]:
                self.assertEqual(changes.unify(spelled(chance, left), spelled(chance, right)), symbol_or_none(expected))
        self.assertGreater(found, 1000)
        self.assertLess(found, 3500)

    def test_tables(self):
        chance = random.Random(19)
        for _ in range(150):
            book, declarations = table.Table(), []
            for _ in range(chance.randrange(12)):
                path = ("path", tuple((chance.choice("ab"), chance.choice([None, None, None, (3,), (("int",),)]))
                                      for _ in range(chance.choice([1, 1, 2, 3]))))
                kinds = [oracle.random_kind(chance, 1) for _ in range(chance.randrange(3))]
                kinds = [somewhere(chance, one, lambda _: ("parameter", chance.randrange(3)), 0.4) for one in kinds]
                function = ("function", tuple(kinds), oracle.random_kind(chance, 1))
                if (path, function) not in declarations:
                    declarations.append((path, function))
                    book.add("Q" + spelled(chance, path, function))
            declarations.sort(key=lambda one: (oracle.plain(one[0]), oracle.plain(one[1])))
            self.assertEqual(book.declarations(), ["Q" + oracle.canonical(*one) for one in declarations])
            for names in [[], ["a"], ["b"], ["a", "a"], ["a", "b"], ["b", "a", "b"]]:
                self.assertEqual(book.members(names), slow.members(declarations, names))
            for path in [path for path, _ in declarations]:
                functions = [oracle.canonical(function) for one, function in declarations if one == path]
                self.assertEqual(book.functions(spelled(chance, path)), functions)

    def test_resolve(self):
        chance = random.Random(20)
        path = ("path", (("f", None),))
        counts = {"none": 0, "one": 0, "several": 0}
        for _ in range(400):
            book, declarations = table.Table(), []
            shapes = [oracle.random_kind(chance, 2) for _ in range(2)]
            for _ in range(chance.randrange(1, 7)):
                pattern = tuple(somewhere(chance, one, lambda _: ("parameter", chance.randrange(3)), 0.4) for one in shapes)
                function = ("function", pattern, chance.choice([("int",), ("parameter", 7)]))
                if (path, function) not in declarations:
                    declarations.append((path, function))
                    book.add("Q" + spelled(chance, path, function))
            for _ in range(3):
                known = {number: oracle.random_kind(chance, 1, "z") for number in range(12)}
                known = {number: slow.substitute(kind, {one: ("int",) for one in range(12)})
                         for number, kind in known.items()}
                arguments = [slow.substitute(one, known) for one in chance.choice(declarations)[1][1]]
                found = slow.resolve(declarations, path, arguments)
                counts[found[0]] += 1
                expected = found[:1]
                if found[0] == "one":
                    expected = ("one", oracle.canonical(found[1]), [symbol_or_none(one) for one in found[2]])
                elif found[0] == "several":
                    expected = ("several", [oracle.canonical(one) for one in found[1]])
                self.assertEqual(book.resolve("N1fE", [spelled(chance, one) for one in arguments]), expected)
        self.assertGreater(counts["one"], 300)
        self.assertGreater(counts["several"], 150)


if __name__ == "__main__":
    unittest.main()
