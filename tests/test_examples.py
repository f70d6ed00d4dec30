"""Every example of the document for what has landed."""

import unittest

from onesymbol.kinds import plain
from onesymbol.reading import canonical, is_symbol, read, read_declaration
from onesymbol.writing import symbol
from tests.helpers import A, AB, at_of

POINTERS = ("function", (("pointer", A), ("pointer", A)), AB)


class ExamplesTest(unittest.TestCase):

    def test_plain(self):
        kind = ("pointer", ("path", (("std", None), ("vec", (("int",), 3)))))
        self.assertEqual(plain(kind), "pointer to ::std::vec<int, 3>")

    def test_symbol(self):
        self.assertEqual(plain(POINTERS), "function (pointer to ::a, pointer to ::a) returning ::a::b")
        self.assertEqual(symbol(POINTERS), "FPN1aEZ1_ENZ2_1bE")

    def test_read(self):
        self.assertEqual(read("FPN1aEZ1_ENZ2_1bE"), POINTERS)
        self.assertEqual(plain(read("N1aIZ1_E1cE")), "::a<::a>::c")

    def test_at(self):
        examples = [("N31a", 2), ("N2a", 3), ("Z1_", 0), ("FPiZ13_Ei", 5), ("NZ1_1aE", 1), ("FN1aENZ1_EEi", 9), ("PiE", 2)]
        for text, at in examples:
            for function in (read, canonical):
                self.assertEqual(at_of(function, text), at, text)

    def test_canonical(self):
        self.assertEqual(canonical("FPiPiEv"), "FPiZ1_Ev")
        self.assertEqual([is_symbol("FPiPiEv"), is_symbol("FPiZ1_Ev")], [False, True])

    def test_read_declaration(self):
        self.assertEqual(read_declaration("QN1aIFEvEEZ2_"), ("N1aIFEvEE", "FEv"))


if __name__ == "__main__":
    unittest.main()
