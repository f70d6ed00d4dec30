"""[2]: the limits, and somewhat beyond them."""

import unittest

from onesymbol.errors import NoKind, NoSpelling, TooLong
from onesymbol.kinds import plain
from onesymbol.reading import canonical, is_symbol, read, read_declaration
from onesymbol.writing import declaration_symbol, symbol
from tests.helpers import A, INT, at_of


def nested(depth, wrap, kind=INT):
    for _ in range(depth):
        kind = wrap(kind)
    return kind


WRAPS = [
    (lambda kind: ("pointer", kind), "P", ""),
    (lambda kind: ("const", kind), "K", ""),
    (lambda kind: ("array", 7, kind), "A7_", ""),
    (lambda kind: ("function", (kind,), INT), "F", "Ei"),
    (lambda kind: ("function", (), kind), "FE", ""),
]


class NestingTest(unittest.TestCase):

    def test_kinds(self):
        for depth in (60, 61, 90, 150, 300):
            for wrap, begin, end in WRAPS:
                kind = nested(depth, wrap)
                text = begin * depth + "i" + end * depth
                self.assertEqual(symbol(kind), text)
                self.assertTrue(plain(kind))
                self.assertEqual(read(text), kind)
                self.assertTrue(is_symbol(text))
                self.assertEqual(at_of(read, text + "$"), len(text))
                self.assertEqual(at_of(read, text[:-1]), len(text) - 1)
                self.assertEqual(read_declaration("QN1aEF" + text + "Ev"), ("N1aE", "F" + text + "Ev"))
                self.assertEqual(declaration_symbol(A, ("function", (), kind)), "QN1aEFE" + text)

    def test_paths_in_arguments(self):
        for depth in (60, 61, 90, 150):
            names = [f"n{index}" for index in range(depth)]
            kind = INT
            for name in names:
                kind = ("path", ((name, (kind,)),))
            text = "".join([f"N{len(name)}{name}I" for name in names[::-1]]) + "i" + "EE" * depth
            self.assertEqual(symbol(kind), text)
            self.assertEqual(read(text), kind)
            self.assertEqual(plain(kind), "".join([f"::{name}<" for name in names[::-1]]) + "int" + ">" * depth)

    def test_what_is_no_kind(self):
        for depth in (60, 300):
            for wrap, _, _ in WRAPS:
                self.assertRaises(NoKind, symbol, nested(depth, wrap, ("int", 1)))
                self.assertRaises(NoKind, plain, nested(depth, wrap, []))

    def test_strings_that_are_nothing_but_beginnings(self):
        for begin in ["P", "R", "F", "FE", "A1_", "N1aI", "N1aIiE1bI", "FN1aI"]:
            text = begin * 300
            self.assertEqual(at_of(read, text), len(text))
            self.assertEqual(at_of(canonical, text + "$"), len(text))
            self.assertEqual(at_of(read_declaration, "QN1aI" + text), len(text) + 5)
            self.assertIs(is_symbol(text), False)


class LengthTest(unittest.TestCase):

    def test_strings_of_10000_characters(self):
        for text in ["F" + "i" * 9997 + "Ei", "F" + "Pi" * 4998 + "Ei", "N" + "1a" * 4999 + "E", "F" + "N1aE" * 2499 + "Ei",
                     "F" + "N1aE" + "NZ1_1bE" * 1427 + "Ei", "N1aI" + "L0_" * 3330 + "EE", "FPi" + "Z1_" * 3331 + "Ei",
                     "N" + "30" + "a" * 30 + ("30" + "b" * 30) * 311 + "E", "N" + "1aIL1_E" * 1428 + "E",
                     "F" + "FEi" * 3332 + "Ei", "FN1aE" + "NZ1_1bIPiEE" * 905 + "Ei"]:
            self.assertLessEqual(len(text), 10010)
            self.assertGreater(len(text), 9900)
            short = canonical(text)
            self.assertEqual(canonical(short), short)
            self.assertIs(is_symbol(short), True)
            self.assertIs(is_symbol(text), short == text)
            self.assertEqual(at_of(canonical, text + "$"), len(text))
            self.assertEqual(at_of(canonical, text[:-1]), len(text) - 1)
            try:
                self.assertEqual(symbol(read(text)), short)
            except TooLong:
                self.assertGreater(len(text), 3000)

    def test_many_back_references_behind_an_n(self):
        # Each component gets a further one, so the distances have up to four digits.
        text = "FN1aE" + "".join([f"NZ{many}_1bE" for many in range(1, 1100)]) + "Ei"
        self.assertEqual(canonical(text), "FN1aENZ1_1bE" + "Z1_" * 1098 + "Ei")

    def test_texts_of_up_to_10000_characters(self):
        kind = ("function", (("pointer", INT),) * 623, INT)
        self.assertEqual(len(plain(kind)), 9991)
        self.assertEqual(read(symbol(kind)), kind)
        path = ("path", (("a", None),) * 3333)
        self.assertEqual(plain(path), "::a" * 3333)
        self.assertEqual(read(symbol(path)), path)
        prefixes = ("function", tuple(("path", (("a", None),) * many) for many in range(1, 80)), INT)
        self.assertEqual(read(symbol(prefixes)), prefixes)


class NumberTest(unittest.TestCase):

    def test_integers_of_many_digits(self):
        for digits in (99, 100, 101, 400):
            number = 10 ** digits - 1
            kind = ("path", (("a", (number, ("parameter", number), ("array", number, INT))),))
            self.assertEqual(plain(kind), "::a<{0}, ${0}, array of {0} int>".format(number))
            self.assertEqual(symbol(kind), "N1aIL{0}_q{0}_A{0}_iEE".format(number))
            self.assertEqual(read(symbol(kind)), kind)
            self.assertRaises(NoKind, symbol, ("array", -number, INT))

    def test_numbers_that_stand_for_nothing(self):
        self.assertEqual(at_of(read, "FPiZ" + "1" * 9000), 5)
        self.assertEqual(at_of(read, "N" + "1" * 9000), 3)
        self.assertEqual(at_of(read, "q" + "1" * 9000), 9001)
        self.assertEqual(at_of(read, "A" + "1" * 9000 + "i"), 9001)

    def test_numbers_are_integers(self):
        self.assertRaises(NoSpelling, read, 10 ** 99)
        self.assertRaises(NoKind, plain, 10 ** 99)


if __name__ == "__main__":
    unittest.main()
