"""[17]: declarations."""

import unittest

from onesymbol.errors import NoSpelling
from onesymbol.reading import canonical, is_symbol, read, read_declaration
from onesymbol.writing import declaration_symbol, symbol
from tests import oracle
from tests.helpers import A, AB, INT, STRANGE, at_of

FUNCTION = ("function", (), ("void",))
GETS_A = ("function", (A, ("pointer", AB)), A)
WITH_FUNCTION = ("path", (("a", (FUNCTION,)),))

# A path, a function, and the symbol of the declaration.
SYMBOLS = [
    (A, FUNCTION, "QN1aEFEv"),
    (A, ("function", (INT, INT), INT), "QN1aEFiiEi"),
    (A, ("function", (A,), A), "QN1aEFZ1_EZ1_"),
    (AB, GETS_A, "QN1a1bEFZ2_PZ1_EZ3_"),
    (A, ("function", (AB,), INT), "QN1aEFNZ1_1bEEi"),
    (WITH_FUNCTION, FUNCTION, "QN1aIFEvEEZ2_"),
    (WITH_FUNCTION, ("function", (FUNCTION,), INT), "QN1aIFEvEEFZ2_Ei"),
    (WITH_FUNCTION, ("function", (WITH_FUNCTION,), A), "QN1aIFEvEEFZ1_EZ3_"),
    (("path", (("a", (3, ("function", (A,), FUNCTION))), ("b", None))), ("function", (A,), FUNCTION),
     "QN1aIL3_FZ1_EFEvE1bEZ3_"),
    (("path", (("a", (3, ("function", (A,), FUNCTION))), ("b", None))), FUNCTION, "QN1aIL3_FZ1_EFEvE1bEZ4_"),
    (("path", (("a", (("pointer", FUNCTION),)),)), FUNCTION, "QN1aIPFEvEEZ3_"),
]

# Other spellings of the declaration before it.
OTHERS = [
    ("QN1aEFZ1_EZ1_", ["QN1aEFN1aEEZ1_", "QN1aEFN1aEEZ2_", "QN1aEFN1aEEN1aE", "QN1aEFZ1_EN1aE"]),
    ("QN1aIFEvEEZ2_", ["QN1aIFEvEEFEv"]),
    ("QN1aIFEvE1bIZ3_EEZ4_", ["QN1aIFEvE1bIFEvEEFEv", "QN1aIFEvE1bIFEvEEZ5_", "QN1aIFEvE1bIFEvEEZ2_"]),
]


class DeclarationSymbolTest(unittest.TestCase):

    def test_symbols(self):
        for path, function, text in SYMBOLS:
            self.assertEqual(declaration_symbol(path, function), text)
            self.assertEqual("Q" + oracle.canonical(path, function), text)

    def test_read_back(self):
        for path, function, text in SYMBOLS:
            found = read_declaration(text)
            self.assertEqual(found, (symbol(path), symbol(function)))
            self.assertIs(type(found), tuple)
            self.assertEqual((read(found[0]), read(found[1])), (path, function))

    def test_other_spellings(self):
        for text, others in OTHERS:
            path, function = map(read, read_declaration(text))
            self.assertEqual(declaration_symbol(path, function), text)
            for other in others:
                self.assertEqual(read_declaration(other), read_declaration(text), other)

    def test_arguments_by_name(self):
        self.assertEqual(declaration_symbol(function=FUNCTION, path=A), "QN1aEFEv")
        self.assertEqual(read_declaration(spelling="QN1aEFEv"), ("N1aE", "FEv"))

    def test_kinds_of_any_length(self):
        inner = "F" * 45 + "Pi" + "Z1_EZ1_" * 45
        self.assertEqual(read_declaration("QN1aEFPi" + inner + "Ev"),
                         ("N1aE", "FPi" + inner.replace("Pi", "Z1_", 1) + "Ev"))
        self.assertEqual(read_declaration("QN1aI" + inner + "EEZ2_"), ("N1aI" + inner + "EE", inner))


class ReadDeclarationTest(unittest.TestCase):

    def at(self, text, at):
        self.assertEqual(at_of(read_declaration, text), at, text)

    def follow(self, text, letters):
        for code in range(128):
            letter = bytes([code]).decode("ascii")
            at = at_of(read_declaration, text + letter)
            if letter in letters:
                self.assertIn(at, (None, len(text) + 1), text + letter)
            else:
                self.assertEqual(at, len(text), text + letter)

    def test_every_beginning(self):
        for text in [text for _, _, text in SYMBOLS] + [other for _, others in OTHERS for other in others]:
            for end in range(len(text)):
                self.at(text[:end], end)

    def test_a_character_more(self):
        for _, _, text in SYMBOLS:
            for letter in "EiIZ_0QNF \n":
                self.at(text + letter, len(text))

    def test_a_character_that_no_spelling_has(self):
        for _, _, text in SYMBOLS:
            for index in range(len(text) + 1):
                for letter in " $-\n":
                    self.at(text[:index] + letter + text[index:], index)
                    self.at(text[:index] + letter + text[index + 1:], index)

    def test_what_it_begins_with(self):
        self.follow("", "Q")
        self.follow("Q", "N")
        self.follow("QN", "123456789")
        self.follow("QN1a", "123456789IE")
        self.at("N1aEFEv", 0)
        self.at("QPiFEv", 1)
        self.at("QZ1_FEv", 1)
        self.at("QFEvFEv", 1)
        self.at("QNZ1_1aEFEv", 2)
        self.at("QQN1aEFEv", 1)

    def test_what_stands_for_the_function(self):
        self.follow("QN1aE", "F")
        self.follow("QN1aIPiEE", "F")
        self.follow("QN1aIFEvEE", "FZ")
        self.follow("QN1aIFEvEEZ", "2")
        self.follow("QN1aIFEvEEZ2", "_")
        self.follow("QN1aIFEvEEZ2_", "")
        self.follow("QN1aIFEvPFEiEEZ", "34")
        for text, at in [("QN1aEZ1_", 5), ("QN1aEi", 5), ("QN1aEPFEv", 5), ("QN1aEN1aE", 5), ("QN1aE", 5), ("QN1aEq0_", 5),
                         ("QN1aIFEvEEZ1_", 11), ("QN1aIFEvEEZ3_", 11), ("QN1aIFEvEEZ02_", 11), ("QN1aIFEvEEZ0_", 11),
                         ("QN1aIFEvEEZ20_", 12), ("QN1aIFEvEEZ2E", 12), ("QN1aIPFEvEEZ2_", 12), ("QN1aIPiEEZ2_", 9)]:
            self.at(text, at)
        self.assertEqual(read_declaration("QN1aIPFEvEEZ3_"), ("N1aIPFEvEE", "FEv"))

    def test_numbers_with_digits_that_are_none(self):
        # Only the parts at the distances 3, 12 and 45 are functions.
        parts = ["Pi"] * 60
        for distance in (3, 12, 45):
            parts[1 - distance] = "FEv"
        text = "QN1aI" + "".join(parts) + "EE"
        self.follow(text + "Z", "134")
        self.follow(text + "Z3", "_")
        self.follow(text + "Z1", "2")
        self.follow(text + "Z12", "_")
        self.follow(text + "Z4", "5")
        self.follow(text + "Z45", "_")
        self.assertEqual(read_declaration(text + "Z45_")[1], "FEv")
        self.at(text + "Z1_", len(text) + 2)

    def test_one_numbering(self):
        self.assertEqual(read_declaration("QN1a1bEFZ1_Z2_EPZ2_"), ("N1a1bE", "FN1a1bEZ2_EPZ2_"))
        self.follow("QN1a1bEFZ", "12")
        self.follow("QN1a1bEFPZ1_Z", "123")
        self.follow("QN1a1bEFN", "123456789Z")

    def test_objects_that_are_no_declarations(self):
        for thing in STRANGE + [3, INT, (A, FUNCTION), ["QN1aEFEv"], "", "i", "N1aE", "FEv"]:
            self.at(thing, 0)
            self.assertRaises(NoSpelling, read_declaration, thing)

    def test_declarations_are_no_spellings_of_kinds(self):
        for _, _, text in SYMBOLS:
            self.assertEqual(at_of(read, text), 0)
            self.assertEqual(at_of(canonical, text), 0)
            self.assertIs(is_symbol(text), False)


if __name__ == "__main__":
    unittest.main()
