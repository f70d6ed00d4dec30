"""[9] and [10]: parts, occurrences of kinds, and identifiers."""

import unittest

from onesymbol.parts import identifier_many, occurrences, parts
from onesymbol.reading import is_symbol
from tests import deep

NAME = "a" * 30


class PartsTest(unittest.TestCase):

    def test_each_form(self):
        for spelling, symbols in [
                ("Pi", ["Pi"]), ("Ri", ["Ri"]), ("Ki", ["Ki"]), ("A3_i", ["A3_i"]), ("FEv", ["FEv"]), ("N1aE", ["N1aE"]),
                ("KKi", ["Ki", "KKi"]), ("FPiRbEKv", ["Pi", "Rb", "Kv", "FPiRbEKv"]), ("A2_A1_i", ["A1_i", "A2_A1_i"]),
                ("FFEiEq0_", ["FEi", "FFEiEq0_"])]:
            self.assertEqual(parts(spelling), symbols)

    def test_builtin_kinds_and_parameters_have_none(self):
        for spelling in ["i", "b", "c", "r", "v", "q0_", "q12_"]:
            self.assertEqual(parts(spelling), [])

    def test_prefixes_of_paths(self):
        self.assertEqual(parts("N1a1bIiEE"), ["N1aE", "N1a1bE", "N1a1bIiEE"])
        self.assertEqual(parts("N1a1b1cE"), ["N1aE", "N1a1bE", "N1a1b1cE"])
        self.assertEqual(parts("N1aIL3_E1bE"), ["N1aE", "N1aIL3_EE", "N1aIL3_E1bE"])
        self.assertEqual(parts("N1aIZ1_E1cE"), ["N1aE", "N1aIZ1_EE", "N1aIZ1_E1cE"])
        self.assertEqual(parts("N1aIPiiE1bIZ3_EE"), ["N1aE", "Pi", "N1aIPiiEE", "N1aIPiiE1bE", "N1aIPiiE1bIZ3_EE"])
        self.assertEqual(parts("N1aIN1b1cEE1dE"), ["N1aE", "N1bE", "N1b1cE", "N1aIN1b1cEEE", "N1aIN1b1cEE1dE"])

    def test_paths_that_begin_alike(self):
        self.assertEqual(parts("FN1a1bENZ2_1cENZ2_IiEEEi"), ["N1aE", "N1a1bE", "N1a1cE", "N1a1bIiEE",
                                                             "FN1a1bENZ2_1cENZ2_IiEEEi"])
        self.assertEqual(parts("FN1a1b1cEN1a1bEN1aEEi"), ["N1aE", "N1a1bE", "N1a1b1cE", "FN1a1b1cEZ2_Z3_Ei"])

    def test_a_part_that_stands_there_several_times(self):
        for spelling in ["FPiPiPiEPi", "FPiZ1_Z1_EZ1_"]:
            self.assertEqual(parts(spelling), ["Pi", "FPiZ1_Z1_EZ1_"])
        self.assertEqual(parts("FPN1aEZ1_ENZ2_1bE"), ["N1aE", "PN1aE", "N1a1bE", "FPN1aEZ1_ENZ2_1bE"])

    def test_each_is_the_symbol_of_its_own_kind(self):
        spelling = "FN1aIPiE1bENZ2_1cEKZ4_ENZ3_1dE"
        found = parts(spelling)
        self.assertEqual(found, ["N1aE", "Pi", "N1aIPiEE", "N1aIPiE1bE", "N1aIPiE1cE", "KPi", "N1aIPiE1b1dE", spelling])
        for part in found:
            self.assertTrue(is_symbol(part), part)

    def test_texts_of_any_length(self):
        found = parts(deep.BIG)
        self.assertEqual(len(found), 45)
        self.assertEqual(found, [deep.spelled(deep.tower(levels)) for levels in range(1, 46)])

    def test_long_paths(self):
        spelling = "N" + "1a" * 4999 + "E"
        self.assertEqual(parts(spelling), ["N" + "1a" * many + "E" for many in range(1, 5000)])
        found = parts("N" + "1aIL1_E" * 1400 + "E")
        self.assertEqual(found[0::2], ["N" + "1aIL1_E" * many + "1aE" for many in range(1400)])
        self.assertEqual(found[1::2], ["N" + "1aIL1_E" * many + "E" for many in range(1, 1401)])


class OccurrencesTest(unittest.TestCase):

    def test_in_itself(self):
        for spelling in ["i", "q3_", "Pi", "A2_i", "FEv", "N1aE", "N1aIiEE", "N1a1bE", deep.BIG]:
            self.assertEqual(occurrences(spelling, spelling), 1)

    def test_each_form(self):
        for spelling in ["Pi", "Ri", "Ki", "A3_i", "FiEv", "FEi", "N1aIiEE", "N1aIiE1bE", "N1a1bIL3_iEE", "KRPi"]:
            self.assertEqual(occurrences(spelling, "i"), 1, spelling)
            self.assertEqual(occurrences(spelling, "b"), 0, spelling)

    def test_several_times(self):
        self.assertEqual(occurrences("FiiEv", "i"), 2)
        self.assertEqual(occurrences("FiiEi", "i"), 3)
        self.assertEqual(occurrences("FiPiEA3_i", "i"), 3)
        self.assertEqual(occurrences("FPiPiPiEPi", "Pi"), 4)
        self.assertEqual(occurrences("N1aIiiE1bIPiN1cIiEEEE", "i"), 4)
        self.assertEqual(occurrences("Fq1_q0_q1_q10_Ev", "q1_"), 2)
        self.assertEqual(occurrences("KKKi", "Ki"), 1)
        self.assertEqual(occurrences("FKKiKiEKKi", "Ki"), 3)

    def test_a_proper_prefix_of_a_path_does_not_occur(self):
        self.assertEqual(occurrences("N1a1bE", "N1aE"), 0)
        self.assertEqual(occurrences("N1aIiEE", "N1aE"), 0)
        self.assertEqual(occurrences("N1aIiE1bE", "N1aIiEE"), 0)
        self.assertEqual(occurrences("N1aIZ1_E1cE", "N1aE"), 1)
        self.assertEqual(occurrences("N1aIZ1_NZ1_1bEE1cE", "N1aE"), 1)
        self.assertEqual(occurrences("FN1aENZ1_1bENZ1_1cEEZ1_", "N1aE"), 1)
        self.assertEqual(occurrences("FN1a1bENZ2_1cEZ3_EZ2_", "N1a1bE"), 2)
        self.assertEqual(occurrences("FN1a1bENZ2_1cEZ3_EZ2_", "N1aE"), 1)
        self.assertEqual(occurrences("N1aIN1a1bEE1bE", "N1a1bE"), 1)

    def test_what_occurs_in_a_prefix_occurs_in_the_path(self):
        self.assertEqual(occurrences("N1aIPiE1b1cIPiEE", "Pi"), 2)
        self.assertEqual(occurrences("FN1aIPiE1bENZ2_1cEEv", "Pi"), 2)

    def test_integers_are_no_kinds(self):
        self.assertEqual(occurrences("N1aIL3_L3_EE", "A3_i"), 0)
        self.assertEqual(occurrences("N1aIL3_q3_EE", "q3_"), 1)
        self.assertEqual(occurrences("A3_q3_", "q3_"), 1)

    def test_very_often(self):
        self.assertEqual(occurrences(deep.BIG, "i"), 3 ** 45)
        self.assertEqual(occurrences(deep.BIG, "v"), 0)
        self.assertEqual(occurrences(deep.BIG, deep.spelled(deep.tower(3))), 3 ** 42)
        self.assertEqual(occurrences(deep.BIG_OTHER, "i"), 3 ** 45 - 1)
        self.assertEqual(occurrences(deep.BIG_OTHER, "b"), 1)
        self.assertEqual(occurrences(deep.BIG_OTHER, deep.spelled(deep.tower(44))), 2)
        paths = deep.spelled(deep.path_tower(80))
        self.assertEqual(occurrences(paths, "i"), 2 ** 80)
        self.assertEqual(occurrences(paths, "N1aE"), 0)
        self.assertEqual(occurrences(paths, "N1aIiiEE"), 2 ** 79)


class IdentifierTest(unittest.TestCase):

    def test_whole_identifiers_of_components(self):
        self.assertEqual(identifier_many("N1aE", "a"), 1)
        self.assertEqual(identifier_many("N1a1a2aaE", "a"), 2)
        self.assertEqual(identifier_many("FN1a1bENZ2_1cEEZ3_", "a"), 3)
        self.assertEqual(identifier_many("FN1a1bENZ2_1cEEZ3_", "b"), 1)
        self.assertEqual(identifier_many("N1aIZ1_E1cE", "a"), 2)
        self.assertEqual(identifier_many("N3stdIL3_iE3vecE", "vec"), 1)
        self.assertEqual(identifier_many("PKA3_N1bE", "b"), 1)
        self.assertEqual(identifier_many(f"N30{NAME}E", NAME), 1)
        self.assertEqual(identifier_many("N1_1_E", "_"), 2)

    def test_the_beginning_of_another_identifier(self):
        self.assertEqual(identifier_many("N2ab2baE", "a"), 0)
        self.assertEqual(identifier_many("N2ab2baE", "abba"), 0)
        self.assertEqual(identifier_many(f"N30{NAME}E", NAME[1:]), 0)
        self.assertEqual(identifier_many("N1AE", "a"), 0)

    def test_words_of_the_text(self):
        for word in ["int", "pointer", "to", "function", "returning", "array", "of", "const", "P", "F", "N", "E"]:
            self.assertEqual(identifier_many("FPiA3_KiRiE" + "v", word), 0)
            self.assertEqual(identifier_many(f"FPiA3_KiN{len(word)}{word}EEv", word), 1)

    def test_very_often(self):
        paths = deep.spelled(deep.path_tower(80))
        self.assertEqual(identifier_many(paths, "a"), 2 ** 80 - 1)
        self.assertEqual(identifier_many(paths, "b"), 0)
        self.assertEqual(identifier_many(deep.spelled(deep.tower(50, ("path", (("a", None), ("b", None))))), "b"), 3 ** 50)


if __name__ == "__main__":
    unittest.main()
