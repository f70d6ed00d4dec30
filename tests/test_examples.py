"""Every example of the document, those in its points and those at its end."""

import unittest

from onesymbol.changes import match, rename, unify
from onesymbol.kinds import plain
from onesymbol.parts import occurrences, parts
from onesymbol.reading import canonical, is_symbol, read, read_declaration
from onesymbol.table import Table
from onesymbol.texts import first_difference, length, order
from onesymbol.writing import symbol
from tests.helpers import A, AB, at_of

POINTERS = ("function", (("pointer", A), ("pointer", A)), AB)


class ExamplesTest(unittest.TestCase):

    def test_plain(self):
        kind = ("pointer", ("path", (("std", None), ("vec", (("int",), 3)))))
        self.assertEqual(plain(kind), "pointer to ::std::vec<int, 3>")

    def test_symbol(self):
        self.assertEqual(plain(POINTERS), "function (pointer to ::a, pointer to ::a) returning ::a::b")
        self.assertEqual(symbol(POINTERS), "FPN1aEZ1_ENZ2_1bE")

    def test_read(self):
        self.assertEqual(read("FPN1aEZ1_ENZ2_1bE"), POINTERS)
        self.assertEqual(plain(read("N1aIZ1_E1cE")), "::a<::a>::c")

    def test_at(self):
        examples = [("N31a", 2), ("N2a", 3), ("Z1_", 0), ("FPiZ13_Ei", 5), ("NZ1_1aE", 1), ("FN1aENZ1_EEi", 9), ("PiE", 2)]
        for text, at in examples:
            for function in (read, canonical):
                self.assertEqual(at_of(function, text), at, text)

    def test_canonical(self):
        self.assertEqual(canonical("FPiPiEv"), "FPiZ1_Ev")
        self.assertEqual([is_symbol("FPiPiEv"), is_symbol("FPiZ1_Ev")], [False, True])

    def test_read_declaration(self):
        self.assertEqual(read_declaration("QN1aIFEvEEZ2_"), ("N1aIFEvEE", "FEv"))

    def test_parts(self):
        self.assertEqual(parts("N1a1bIiEE"), ["N1aE", "N1a1bE", "N1a1bIiEE"])

    def test_occurrences(self):
        self.assertEqual([occurrences("N1a1bE", "N1aE"), occurrences("FiiEv", "i")], [0, 2])

    def test_texts(self):
        self.assertEqual(length("FiiEv"), 34)
        self.assertEqual([first_difference("N1aE", "N1a1bE"), order("N1aE", "N1a1bE"), first_difference("i", "i")], [3, -1, None])

    def test_rename(self):
        renamed = rename("N1aIZ1_E1cE", ["a"], ["a", "b"])
        self.assertEqual(renamed, "N1a1bIZ1_E1cE")
        self.assertEqual(plain(read(renamed)), "::a::b<::a::b>::c")

    def test_match(self):
        self.assertEqual(match("q0_", "Pq0_"), ["Pq0_"])

    def test_unify(self):
        self.assertEqual([unify("FPq0_Eq1_", "Fq2_Ei"), unify("q5_", "q5_"), unify("Pq0_", "q0_")], ["FPq0_Ei", "q0_", None])

    def test_table(self):
        book = Table()
        book.add("QN1fEFiEv")
        book.add("QN1fEFq0_Ev")
        self.assertEqual([book.resolve("N1fE", ["i"]), book.resolve("N1fE", ["b"]), book.resolve("N1fE", [])],
                         [("one", "FiEv", []), ("one", "Fq0_Ev", ["b"]), ("none",)])


if __name__ == "__main__":
    unittest.main()
