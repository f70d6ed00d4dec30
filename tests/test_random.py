"""The program and the slow one in oracle.py say the same of many kinds and texts."""

import itertools
import random
import unittest

from onesymbol.errors import NoSpelling, TooLong
from onesymbol.kinds import plain
from onesymbol.reading import canonical, is_symbol, read, read_declaration
from onesymbol.writing import declaration_symbol, symbol
from tests import oracle
from tests.helpers import at_of

LETTERS = "ibPKNNFEIALLZZZZ__0123456789abq"


def changed(chance, text):
    """The text with some characters replaced, removed or put in."""
    begin = chance.randrange(len(text) + 1)
    end = min(len(text), begin + chance.randrange(3))
    return text[:begin] + "".join(chance.choice(LETTERS) for _ in range(chance.randrange(3))) + text[end:]


class RandomTest(unittest.TestCase):

    def kinds(self, seed, many, choose=None):
        """Random kinds that are not too long, each with a chance for what comes next."""
        chance = random.Random(seed)
        while many:
            kind = oracle.random_kind(chance, chance.randrange(6))
            if len(oracle.plain(kind)) <= 9000 and (choose is None or kind[0] == choose):
                many -= 1
                yield chance, kind

    def test_kinds(self):
        for _, kind in self.kinds(1, 4000):
            text = oracle.canonical(kind)
            self.assertEqual(plain(kind), oracle.plain(kind))
            self.assertEqual(symbol(kind), text)
            self.assertEqual(read(text), kind)
            self.assertIs(is_symbol(text), True)

    def test_spellings(self):
        for chance, kind in self.kinds(2, 4000):
            text = oracle.Speller(chance.choice).spell(kind)
            self.assertEqual(read(text), kind, text)
            self.assertEqual(canonical(text), oracle.canonical(kind), text)
            self.assertIs(is_symbol(text), text == oracle.canonical(kind), text)

    def test_changed_spellings(self):
        for chance, kind in self.kinds(3, 4000):
            text = changed(chance, oracle.Speller(chance.choice).spell(kind))
            found, at = oracle.parsed(text)
            self.assertEqual(at_of(canonical, text), at, text)
            if at is None:
                try:
                    self.assertEqual(read(text), found, text)
                except TooLong:
                    self.assertGreater(len(oracle.plain(found)), 10000)

    def test_declarations(self):
        functions = self.kinds(5, 1500, "function")
        for chance, path in self.kinds(4, 1500, "path"):
            function = next(functions)[1]
            if chance.randrange(3) == 0:
                path = ("path", path[1] + (("z", (function,)),))
            symbols = oracle.canonical(path), oracle.canonical(function)
            self.assertEqual(declaration_symbol(path, function), "Q" + oracle.canonical(path, function))
            speller = oracle.Speller(chance.choice)
            text = "Q" + speller.spell(path) + speller.spell(function)
            self.assertEqual(read_declaration(text), symbols)
            text = changed(chance, text)
            found, at = oracle.parsed(text, True)
            self.assertEqual(at_of(read_declaration, text), at, text)
            if at is None:
                self.assertEqual(read_declaration(text), (oracle.canonical(found[0]), oracle.canonical(found[1])))

    def test_all_short_texts(self):
        begun = [""]
        while begun:
            following = []
            for text, letter in itertools.product(begun, "iPNFEIALZ_012a:"):
                longer = text + letter
                at = at_of(read, longer)
                self.assertEqual(oracle.begins(longer), at in (None, len(longer)), longer)
                self.assertIn(at, (None, len(longer), len(text)), longer)
                if at == len(longer) and len(longer) < 6:
                    following.append(longer)
            begun = following

    def test_what_is_read_of_a_text_can_be_gone_on_with(self):
        for chance, kind in self.kinds(6, 300):
            text = changed(chance, oracle.Speller(chance.choice).spell(kind))
            taken = text[:at_of(canonical, text)]
            while (at := at_of(canonical, taken)) is not None:
                self.assertEqual(at, len(taken))
                ways = [one for one in "_Ei1a023456789" if at_of(canonical, taken + one) in (None, at + 1)]
                taken += ways[0]
            self.assertIsNotNone(oracle.parsed(taken)[0], taken)


if __name__ == "__main__":
    unittest.main()
