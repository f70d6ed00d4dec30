"""[7]: reading, and the field `at` of NoSpelling."""

import unittest

from onesymbol.errors import NoSpelling, TooLong
from onesymbol.reading import canonical, is_symbol, read
from tests import oracle
from tests.helpers import A, INT, STRANGE, at_of
from tests.test_symbols import SYMBOLS

ASCII = [bytes([code]).decode("ascii") for code in range(128)]
IDENTIFIER_BEGIN = [one for one in ASCII if one.isalpha() or one == "_"]
DIGITS = list("0123456789")
KIND = list("ibcrvqPRKAFN")

SPELLINGS = [text for _, text in SYMBOLS] + [
    "FPiPiEv", "N1aIN1aEE1cE", "FN1a1bENZ1_1cENZ2_IPiL0_EEEi", "A12345678901234567890_q1_",
    "N12abcdefghijkl30" + "b" * 30 + "IL10_L0_q0_FEiE1_E", "F" + "Pi" * 12 + "Z12_Z10_Z1_EZ11_",
]


class At:

    def at(self, text, at):
        """The text is no spelling, and all functions name this index."""
        for function in (read, canonical):
            self.assertEqual(at_of(function, text), at, text)
        self.assertIs(is_symbol(text), False)

    def follow(self, text, letters):
        """Just these characters may follow the text; that they may end it plays no part."""
        for letter in ASCII:
            at = at_of(read, text + letter)
            if letter in letters:
                self.assertIn(at, (None, len(text) + 1), text + letter)
            else:
                self.assertEqual(at, len(text), text + letter)


class AtTest(At, unittest.TestCase):

    def test_good_ones(self):
        self.assertGreater(len(SPELLINGS), 50)
        for text in SPELLINGS:
            self.assertIsNone(at_of(read, text), text)

    def test_every_beginning(self):
        for text in SPELLINGS:
            for end in range(len(text)):
                self.at(text[:end], end)

    def test_a_character_more(self):
        for text in SPELLINGS:
            for letter in "EiIZ_0Na \n$":
                self.at(text + letter, len(text))
        self.follow("i", "")
        self.follow("Pi", "")
        self.follow("N1aE", "")
        self.follow("FEi", "")

    def test_a_character_that_no_spelling_has(self):
        for text in SPELLINGS:
            for index in range(len(text) + 1):
                for letter in "$ -\n\0\x7f%:<":
                    self.at(text[:index] + letter + text[index:], index)
                    self.at(text[:index] + letter + text[index + 1:], index)

    def test_signs_beyond_ascii(self):
        for letter in "\u00e4\u0661\u00b2\u2160\ufeff\U0001d7d9\ud800":
            for text in ["", "q", "q1", "A", "A1", "N", "N1", "N2a", "N1aIL", "FPiZ", "FPiZ1", "F", "i", "N1a", "FN1aEN"]:
                self.at(text + letter, len(text))
                self.at(text + letter + "_i", len(text))

    def test_where_a_kind_stands(self):
        for text in ["", "P", "R", "K", "A1_", "FE", "PPP", "FP"]:
            self.follow(text, KIND)
        self.follow("F", KIND + ["E"])
        self.follow("Fi", KIND + ["E"])
        self.follow("FPi", KIND + ["E", "Z"])
        self.follow("FPiE", KIND + ["Z"])
        self.follow("N1aI", KIND + ["L", "Z"])
        self.follow("N1aIi", KIND + ["L", "Z", "E"])
        self.follow("N1aIL1_", KIND + ["L", "Z", "E"])
        self.follow("N1aIP", KIND + ["Z"])

    def test_lengths(self):
        self.follow("N", list("123456789"))
        self.at("N0aE", 1)
        self.at("N01aE", 1)
        for digit in "456789":
            self.follow("N" + digit, IDENTIFIER_BEGIN)
        self.follow("N1", IDENTIFIER_BEGIN + DIGITS)
        self.follow("N2", IDENTIFIER_BEGIN + DIGITS)
        self.follow("N3", IDENTIFIER_BEGIN + ["0"])
        for length in range(10, 31):
            self.follow(f"N{length}", IDENTIFIER_BEGIN)
        self.at("N30" + "a" * 29, 32)
        self.at("N30" + "a" * 29 + "-", 32)
        self.assertEqual(read("N30" + "a" * 30 + "E"), ("path", (("a" * 30, None),)))
        self.at("N31" + "a" * 31 + "E", 2)
        self.at("N300", 3)
        self.at("N1aE1", 4)
        self.at("N1a31a", 4)
        self.at("N1a0a", 3)

    def test_identifiers(self):
        self.follow("N2a", IDENTIFIER_BEGIN + DIGITS)
        self.follow("N3a1", IDENTIFIER_BEGIN + DIGITS)
        self.follow("N10", IDENTIFIER_BEGIN)
        self.at("N41abcE", 2)
        self.at("N2a", 3)
        self.at("N2aE", 4)
        self.at("N2a:E", 3)

    def test_components(self):
        self.follow("N1a", list("123456789IE"))
        self.follow("N1a1b", list("123456789IE"))
        self.follow("N1aIiE", list("123456789E"))
        self.follow("N1aIiE1b", list("123456789IE"))
        self.at("NE", 1)
        self.at("NIiE", 1)
        self.at("N1aIE", 4)
        self.at("N1aIEE", 4)
        self.at("N1aIiEIiEE", 6)
        self.at("N1aIL1_EIiEE", 8)

    def test_integers(self):
        self.follow("q", DIGITS)
        self.follow("q0", "_")
        self.follow("q1", DIGITS + ["_"])
        self.follow("q10", DIGITS + ["_"])
        self.follow("A", list("123456789"))
        self.follow("A1", DIGITS + ["_"])
        self.follow("A10", DIGITS + ["_"])
        self.follow("A1_", KIND)
        self.follow("N1aIL", DIGITS)
        self.follow("N1aIL0", "_")
        self.follow("N1aIL9", DIGITS + ["_"])
        for text, at in [("q_", 1), ("q00_", 2), ("q01_", 2), ("q-1_", 1), ("A0_i", 1), ("A01_i", 1), ("A_i", 1),
                         ("A-1_i", 1), ("N1aIL_E", 5), ("N1aIL00_E", 6), ("N1aIL01_E", 6), ("L1_", 0), ("FL1_Ei", 1),
                         ("PL1_", 1), ("FEL1_", 2), ("N1aIPL1_EE", 5), ("q1", 2), ("A1", 2), ("A1_", 3)]:
            self.at(text, at)
        self.assertEqual(read("A" + "9" * 100 + "_i"), ("array", 10 ** 100 - 1, INT))
        self.assertEqual(read("q" + "9" * 130 + "_"), ("parameter", 10 ** 130 - 1))
        self.at("q" + "9" * 130 + "i", 131)

    def test_functions(self):
        self.at("F", 1)
        self.at("FE", 2)
        self.at("FEE", 2)
        self.at("FiE", 3)
        self.at("FiEE", 3)
        self.at("E", 0)
        self.at("PE", 1)

    def test_objects_that_are_no_strings(self):
        for thing in STRANGE + [INT, A, 3, ["i"], ("i",), {"i"}]:
            self.at(thing, 0)
        self.at("", 0)

    def test_arguments_by_name(self):
        self.assertEqual(read(spelling="i"), INT)
        self.assertEqual(canonical(spelling="i"), "i")
        self.assertIs(is_symbol(text="i"), True)

    def test_the_error_is_no_spelling_and_nothing_else(self):
        for text in ["", "x", "Pi$", None, [], "N31a"]:
            with self.assertRaises(NoSpelling) as caught:
                read(text)
            self.assertIs(caught.exception.__class__, NoSpelling)

    def test_what_stops_the_reader_is_not_too_early(self):
        # What the reader has taken can be gone on with: greedily, first of all by what ends it.
        for text in ["FZ", "NZ", "FPiNZ1_", "FN1aENZ", "N2", "N25ab", "N1aIL1", "A1", "FFFF", "N1aIN1bIN1c", "q"]:
            taken = text[:at_of(read, text)]
            while (at := at_of(read, taken)) is not None:
                self.assertEqual(at, len(taken))
                taken += next(one for one in "_Ei1a0Z2" if at_of(read, taken + one) in (None, at + 1))


class BackReferenceTest(At, unittest.TestCase):

    def test_to_the_first_and_the_last_part(self):
        text = "FPiRiKi"
        for distance, kind in [(1, ("const", INT)), (2, ("reference", INT)), (3, ("pointer", INT))]:
            self.assertEqual(read(f"{text}Z{distance}_Ei")[1][3], kind)
            self.assertEqual(read(f"{text}EZ{distance}_")[2], kind)
            self.assertEqual(read(f"{text}PZ{distance}_Ei")[1][3], ("pointer", kind))
            self.assertEqual(read(f"{text}N1aIZ{distance + 1}_EEEi")[1][3], ("path", (("a", (kind,)),)))
        self.at(text + "Z4_Ei", 8)
        self.at(text + "Z0_Ei", 8)
        self.follow(text + "Z", "123")
        self.follow(text + "Z3", "_")

    def test_to_none(self):
        for text in ["Z1_", "Z", "Z0_", "Z_", "Zi"]:
            self.at(text, 0)
        for text in ["P", "R", "K", "A1_", "F", "FP", "Fi", "FE", "FiE", "FP", "Fq1_", "N"]:
            self.at(text + "Z1_", len(text))
        self.at("PZ1_", 1)
        self.at("FZ1_Ei", 1)
        self.at("FiZ1_Ei", 2)
        self.at("FEZ1_", 2)
        self.at("Fq1_Z1_Ei", 4)
        self.at("PiZ1_", 2)
        self.at("NZ1_1aE", 1)

    def test_zeros_ahead(self):
        self.at("FPiZ0_Ei", 4)
        self.at("FPiZ01_Ei", 4)
        self.at("FPiZ00_Ei", 4)
        self.at("FN1aENZ01_1bEEi", 7)

    def test_without_the_underscore(self):
        self.follow("FPiZ1", "_")
        self.at("FPiZ1Ei", 5)
        self.at("FPiZ1", 5)
        self.at("FPiZ", 4)
        self.at("FPiZ_Ei", 4)
        self.at("FPiZEi", 4)

    def test_numbers_of_several_digits(self):
        twelve = "F" + "Pi" * 12
        self.follow(twelve + "Z", "123456789")
        self.follow(twelve + "Z1", "_012")
        self.follow(twelve + "Z2", "_")
        self.follow(twelve + "Z12", "_")
        self.assertEqual(read(twelve + "Z12_Ei"), ("function", (("pointer", INT),) * 13, INT))
        self.at(twelve + "Z13_Ei", 27)
        self.at("FPiZ13_Ei", 5)
        many = "F" + "Pi" * 123
        self.follow(many + "Z12", "_0123")
        self.follow(many + "Z13", "_")
        self.follow(many + "Z1", "_0123456789")
        self.follow(many + "Z100", "_")
        self.assertEqual(len(read(many + "Z123_Ei")[1]), 124)
        self.at(many + "Z124_Ei", len(many) + 3)

    def test_a_part_is_completed_at_its_end(self):
        self.at("PZ1_", 1)
        self.at("N1aIPZ2_EE", 6)
        self.at("N1aIPZ1_E1bIZ5_EE", 13)
        self.assertEqual(read("N1aIZ1_EE"), ("path", (("a", (A,)),)))
        self.assertEqual(read("FN1aIiE1bEZ2_Z3_Ei")[1][1:], (("path", (("a", (INT,)),)), A))

    def test_prefixes_of_a_back_reference_are_not_completed_again(self):
        self.assertEqual(read("FN1a1bENZ1_1cEZ3_Ei")[1][2], A)
        self.at("FN1a1bENZ1_1cEZ4_Ei", 15)
        self.at("FPiZ1_Z2_Ei", 7)

    def test_equal_parts_get_several_numbers(self):
        self.assertEqual(read("FPiRiPiZ1_Z2_Z3_Ei")[1][3:], (("pointer", INT), ("reference", INT), ("pointer", INT)))
        self.at("FPiRiPiZ4_Ei", 8)

    def test_behind_an_n_only_paths(self):
        self.at("FPiNZ1_1aEEi", 4)
        self.at("FPiFEiNZ2_1aEEi", 7)
        text = "FN1aEPi"
        self.follow(text + "N", "123456789Z")
        self.follow(text + "NZ", "2")
        self.follow(text + "NZ2", "_")
        self.at(text + "NZ1_1bEEi", 9)
        self.at(text + "NZ3_1bEEi", 9)
        self.assertEqual(read(text + "NZ2_1bEEi")[1][2], ("path", (("a", None), ("b", None))))
        self.follow("N1aIN", "123456789Z")
        self.follow("N1aINZ", "1")

    def test_behind_an_n_numbers_with_digits_that_are_none(self):
        # Only the parts at the distances 2, 12, 35 and 123 are paths.
        parts = ["Pi"] * 123
        for distance in (2, 12, 35, 123):
            parts[-distance] = "N1aE"
        text = "F" + "".join(parts) + "N"
        self.follow(text + "Z", "123")
        self.follow(text + "Z1", "2")
        self.follow(text + "Z2", "_")
        self.follow(text + "Z3", "5")
        self.follow(text + "Z12", "_3")
        self.follow(text + "Z35", "_")
        self.follow(text + "Z123", "_")
        for distance in (2, 12, 35, 123):
            self.assertEqual(read(f"{text}Z{distance}_1bEEi")[1][-1], ("path", (("a", None), ("b", None))))
        self.at(text + "Z1_1bEEi", len(text) + 2)
        self.at(text + "Z124_1bEEi", len(text) + 3)
        # Where any kind may stand, each number up to 123 may.
        self.follow(text[:-1] + "Z12", "_0123")

    def test_behind_an_n_with_one_path(self):
        for distance in (1, 2, 9, 10, 11, 19, 20, 21, 29, 90, 99, 100, 101, 109, 110, 199, 200, 201, 210):
            number = str(distance)
            parts = ["Pi"] * 210
            parts[-distance] = "N1aE"
            text = "F" + "".join(parts) + "NZ"
            for end in range(len(number)):
                self.follow(text + number[:end], number[end])
            self.follow(text + number, "_")

    def test_behind_a_back_reference_behind_an_n(self):
        self.follow("FN1aENZ1_", "123456789I")
        self.follow("FN1aIiEENZ1_", "123456789")
        self.follow("FN1aIiEENZ2_", "123456789I")
        self.follow("FN1a1bENZ1_I", KIND + ["L", "Z"])
        self.follow("FN1aENZ1_IiE", "123456789E")
        self.follow("FN1aENZ1_1b", "123456789IE")
        self.at("FN1aENZ1_EEi", 9)
        self.at("FN1aENZ1_Z1_EEi", 9)
        self.at("FN1aENZ1_IEEEi", 10)
        self.at("FN1aIiEENZ1_IiEEEi", 12)
        self.at("N1aZ1_E", 3)
        self.at("FN1aEN1bZ1_EEi", 8)

    def test_a_kind_that_is_a_back_reference_goes_not_on(self):
        self.at("FN1aEZ1_1bEEi", 8)
        self.at("FN1aEZ1_IiEEEi", 8)
        self.at("N1aIZ1_IiEEE", 7)


class TooLongTest(unittest.TestCase):

    LONGEST = "F" + "i" * 1993 + "b" * 2 + "Ei"

    def test_the_longest_text(self):
        self.assertEqual(len(oracle.plain(read(self.LONGEST))), 10000)
        self.assertEqual(read(self.LONGEST), ("function", (INT,) * 1993 + (("bool",),) * 2, INT))

    def test_one_character_more(self):
        longer = "F" + "i" * 1992 + "b" * 3 + "Ei"
        self.assertRaises(TooLong, read, longer)
        self.assertIs(is_symbol(longer), True)
        self.assertEqual(canonical(longer), longer)

    def test_with_paths_and_integers(self):
        # Each component is ::a<12>, and q123_ is $123.
        components = "1aIL12_E" * 1428
        self.assertEqual(len(read("N" + components + "E")[1]), 1428)
        self.assertEqual(len(read("N" + components + "2bcE")[1]), 1429)
        self.assertRaises(TooLong, read, "N" + components + "3bcdE")
        self.assertRaises(TooLong, read, "N" + components + "1aIL12_EE")
        self.assertEqual(len(oracle.plain(read("N" + components[:-8] + "5bcdefIq0_EE"))), 10000)
        self.assertRaises(TooLong, read, "N" + components[:-8] + "5bcdefIq10_EE")

    def test_no_spelling_comes_first(self):
        self.assertEqual(at_of(read, "F" + "i" * 3000 + "E"), 3002)
        self.assertEqual(at_of(read, "F" + "i" * 3000 + "Ei$"), 3003)

    def test_a_text_of_more_characters_than_there_is_room_for(self):
        text = "F" * 50 + "Pi" + "Z1_EZ1_" * 50
        self.assertRaises(TooLong, read, text)
        with self.assertRaises(TooLong) as caught:
            read(text)
        self.assertIs(caught.exception.__class__, TooLong)


if __name__ == "__main__":
    unittest.main()
