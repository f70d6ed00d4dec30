"""[13] and [14]: renaming and substitution."""

import unittest

from onesymbol.changes import rename, substitute
from onesymbol.errors import NoArguments, NoIdentifier, NoSpelling
from onesymbol.parts import identifier_many, occurrences
from onesymbol.texts import length
from tests import deep
from tests.helpers import IDENTIFIERS, STRANGE

NAME = "a" * 30


class RenameTest(unittest.TestCase):

    def test_the_beginning_of_a_path(self):
        self.assertEqual(rename("N1aE", ["a"], ["b"]), "N1bE")
        self.assertEqual(rename("N1a1b1cE", ["a"], ["x"]), "N1x1b1cE")
        self.assertEqual(rename("N1a1b1cE", ["a", "b"], ["x"]), "N1x1cE")
        self.assertEqual(rename("N1a1b1cE", ["a", "b", "c"], ["x"]), "N1xE")
        self.assertEqual(rename("N1a1bE", ["a"], ["x", "y", "z"]), "N1x1y1z1bE")
        self.assertEqual(rename("N1a1b1cE", ["a", "b"], ["x", "y", "z"]), "N1x1y1z1cE")
        self.assertEqual(rename(f"N30{NAME}E", [NAME], ["_"]), "N1_E")

    def test_paths_that_do_not_begin_with_the_old_names(self):
        for spelling in ["N1a1bE", "N1aIiEE", "i", "Pq0_", "FEv"]:
            self.assertEqual(rename(spelling, ["b"], ["x"]), spelling)
            self.assertEqual(rename(spelling, ["a", "a"], ["x"]), spelling)
            self.assertEqual(rename(spelling, ["a", "b", "c"], ["x"]), spelling)
            self.assertEqual(rename(spelling, ["A"], ["x"]), spelling)
        self.assertEqual(rename("N2aaE", ["a"], ["x"]), "N2aaE")
        self.assertEqual(rename("N1aE", ["aa"], ["x"]), "N1aE")
        self.assertEqual(rename("N1b1aE", ["a"], ["x"]), "N1b1aE")
        self.assertEqual(rename("N1a1a1bE", ["a", "b"], ["x"]), "N1a1a1bE")

    def test_in_each_place(self):
        self.assertEqual(rename("N1aIZ1_E1cE", ["a"], ["a", "b"]), "N1a1bIZ1_E1cE")
        for begin, end in [("P", ""), ("R", ""), ("K", ""), ("A7_", ""), ("F", "Ei"), ("Fi", "Ei"), ("FE", ""), ("N1xI", "EE"),
                           ("N1xIL3_", "E1aE"), ("N1x1aI", "EE"), ("PKFRA2_", "Ei")]:
            self.assertEqual(rename(begin + "N1a1cE" + end, ["a"], ["b"]), begin + "N1b1cE" + end)
            self.assertEqual(rename(begin + "N1a1cE" + end, ["a", "c"], ["b"]), begin + "N1bE" + end)
        self.assertEqual(rename("FN1aENZ1_1bENZ1_IZ2_EEN1c1aEEZ1_", ["a"], ["z"]), "FN1zENZ1_1bENZ1_IZ2_EEN1c1aEEZ1_")

    def test_arguments_of_the_last_old_component(self):
        self.assertEqual(rename("N1aIiEE", ["a"], ["b"]), "N1bIiEE")
        self.assertEqual(rename("N1aIiEE", ["a"], ["b", "c"]), "N1b1cIiEE")
        self.assertEqual(rename("N1a1bIL3_iE1cE", ["a", "b"], ["x"]), "N1xIL3_iE1cE")
        self.assertEqual(rename("N1a1bIiE1cIvEE", ["a", "b"], ["x", "y"]), "N1x1yIiE1cIvEE")
        self.assertEqual(rename("N1aIN1aIiEEE1bE", ["a"], ["b"]), "N1bINZ1_IiEEE1bE")

    def test_arguments_of_an_earlier_component(self):
        for spelling in ["N1aIiE1bE", "N1aIiE1bIiEE", "N1aIL1_E1b1cE"]:
            self.assertEqual(rename(spelling, ["a", "b"], ["x"]), spelling)
            self.assertEqual(rename(spelling, ["a", "b", "c"], ["x"]), spelling)
            self.assertEqual(rename(spelling, ["a"], ["x"]), spelling.replace("1a", "1x"))
        # The paths in the arguments are renamed nevertheless.
        self.assertEqual(rename("N1aIN1a1bEE1bE", ["a", "b"], ["x"]), "N1aIN1xEE1bE")
        self.assertEqual(rename("N1aINZ1_1bEE1bE", ["a", "b"], ["x"]), "N1aIN1xEE1bE")

    def test_once(self):
        self.assertEqual(rename("N1aE", ["a"], ["a", "a"]), "N1a1aE")
        self.assertEqual(rename("N1a1aE", ["a"], ["a", "a"]), "N1a1a1aE")
        self.assertEqual(rename("N1a1a1aE", ["a", "a"], ["a"]), "N1a1aE")
        self.assertEqual(rename("N1a1b1bE", ["a", "b"], ["a"]), "N1a1bE")
        self.assertEqual(rename("FN1aEN1bEEv", ["a"], ["b"]), "FN1bEZ1_Ev")
        self.assertEqual(rename("N1aE", ["a"], ["a"]), "N1aE")

    def test_names_that_begin_or_end_with_the_old_ones(self):
        self.assertEqual(rename("N1aE", ["a"], ["a", "b", "c"]), "N1a1b1cE")
        self.assertEqual(rename("N1a1bE", ["a"], ["c", "a"]), "N1c1a1bE")
        self.assertEqual(rename("N1a1b1cE", ["a", "b"], ["a", "b", "a", "b"]), "N1a1b1a1b1cE")
        self.assertEqual(rename("N1a1b1cE", ["a", "b"], ["a"]), "N1a1cE")
        self.assertEqual(rename("N1a1b1cE", ["a", "b"], ["b"]), "N1b1cE")

    def test_the_result_is_a_symbol(self):
        self.assertEqual(rename("FN1aIPiEEN1bIPiEEEi", ["a"], ["b"]), "FN1bIPiEEZ1_Ei")
        self.assertEqual(rename("FN1a1bEN1c1bEEi", ["a"], ["c"]), "FN1c1bEZ1_Ei")
        self.assertEqual(rename("FPiPiEv", ["a"], ["b"]), "FPiZ1_Ev")

    def test_lists_that_are_none(self):
        for names in [[], [""], ["a", ""], ["1"], ["1a"], ["a b"], ["a::b"], ["a<int>"], ["a" * 31], [None], ["a", 1], [["a"]],
                      [b"a"], [True], ["a", ("b",)], ["a-"], ["\u00e4"], ["a\n"], [("int",)], "a", ("a",), {"a": 1}]:
            self.assertRaises(NoIdentifier, rename, "N1aE", names, ["b"])
            self.assertRaises(NoIdentifier, rename, "N1aE", ["b"], names)
            self.assertRaises(NoIdentifier, rename, "i", names, names)
        for thing in STRANGE:
            if thing is not IDENTIFIERS:
                self.assertRaises(NoIdentifier, rename, "N1aE", thing, ["b"])
                self.assertRaises(NoIdentifier, rename, "N1aE", ["b"], thing)
            self.assertRaises(NoIdentifier, rename, "N1aE", ["a", thing], ["b"])
            self.assertRaises(NoIdentifier, rename, "N1aE", ["a"], [thing, "b"])

    def test_texts_of_any_length(self):
        paths = deep.spelled(deep.path_tower(60, ("path", (("a", None), ("b", None)))))
        changed = rename(paths, ["a"], ["b", "c"])
        self.assertEqual(identifier_many(changed, "a"), 0)
        self.assertEqual(identifier_many(changed, "c"), 2 ** 61 - 1)
        self.assertEqual(identifier_many(changed, "b"), 2 ** 61 - 1 + 2 ** 60)
        self.assertEqual(rename(paths, ["a", "b"], ["c"]), deep.spelled(deep.path_tower(60, ("path", (("c", None),)))))
        self.assertEqual(rename(changed, ["b", "c"], ["a"]), paths)


class SubstituteTest(unittest.TestCase):

    def test_parameters(self):
        self.assertEqual(substitute("q0_", ["i"]), "i")
        self.assertEqual(substitute("q1_", ["i", "Pb"]), "Pb")
        self.assertEqual(substitute("Fq0_q1_q0_Eq1_", ["i", "b"]), "FibiEb")
        self.assertEqual(substitute("Fq0_q0_Eq0_", ["Pi"]), "FPiZ1_EZ1_")
        for begin, end in [("P", ""), ("R", ""), ("K", ""), ("A7_", ""), ("F", "Ei"), ("Fi", "Ei"), ("FE", ""), ("N1xI", "EE"),
                           ("N1xIL3_", "E1aE"), ("N1x1aI", "EE"), ("PKFRA2_", "Ei")]:
            self.assertEqual(substitute(begin + "q0_" + end, ["v"]), begin + "v" + end)

    def test_other_parameters_stay(self):
        self.assertEqual(substitute("Fq0_q1_q2_Ev", ["i"]), "Fiq1_q2_Ev")
        self.assertEqual(substitute("Fq0_q1_q2_Ev", []), "Fq0_q1_q2_Ev")
        self.assertEqual(substitute("Fq10_q1_Ev", ["i", "b"]), "Fq10_bEv")
        self.assertEqual(substitute("q99_", ["i"] * 30), "q99_")
        self.assertEqual(substitute("q29_", ["i"] * 29 + ["b"]), "b")
        self.assertEqual(substitute("q99_", ["i"] * 99 + ["b"]), "b")

    def test_longer_lists(self):
        self.assertEqual(substitute("i", ["b", "v"]), "i")
        self.assertEqual(substitute("Pq0_", ["b", "v", "Pi"]), "Pb")

    def test_all_at_once(self):
        self.assertEqual(substitute("Fq0_Eq1_", ["q1_", "q0_"]), "Fq1_Eq0_")
        self.assertEqual(substitute("Fq0_Eq1_", ["q1_", "i"]), "Fq1_Ei")
        self.assertEqual(substitute("q0_", ["Pq0_"]), "Pq0_")
        self.assertEqual(substitute("FPq0_Eq0_", ["Pq0_"]), "FPPq0_EZ2_")
        self.assertEqual(substitute("FPq1_Eq0_", ["Pq1_", "i"]), "FPiEPq1_")
        self.assertEqual(substitute("Fq0_q1_q2_Ev", ["Pq1_", "Pq2_", "Pq0_"]), "FPq1_Pq2_Pq0_Ev")

    def test_integers_stay(self):
        self.assertEqual(substitute("N1aIL0_q0_A1_q1_EE", ["i", "b"]), "N1aIL0_iA1_bEE")

    def test_the_result_is_a_symbol(self):
        self.assertEqual(substitute("FPq0_Pq1_Ev", ["i", "i"]), "FPiZ1_Ev")
        self.assertEqual(substitute("FPiq0_Ev", ["Pi"]), "FPiZ1_Ev")
        self.assertEqual(substitute("FN1aIq0_EEq1_Ev", ["Pi", "N1aIPiEE"]), "FN1aIPiEEZ1_Ev")
        self.assertEqual(substitute("FPiPiEq0_", ["FPiPiEv"]), "FPiZ1_EFZ1_Z1_Ev")
        self.assertEqual(substitute("N1aIq0_E1bE", ["N1aE"]), "N1aIZ1_E1bE")

    def test_wrong_arguments(self):
        for thing in STRANGE + [("i",), {0: "i"}, "", "FPiEEv"]:
            if not isinstance(thing, list):
                self.assertRaises(NoArguments, substitute, "q0_", thing)
            self.assertRaises(NoSpelling, substitute, "q0_", ["i", thing, "x"])
        for spelling, index in [("Pi", 0), ("Pq0_", 1), ("i", 5)]:
            arguments = ["i"] * index + ["FPiZ9_Ei", "N31a", 5]
            with self.assertRaises(NoSpelling) as caught:
                substitute(spelling, arguments)
            self.assertEqual(caught.exception.at, 4)
        with self.assertRaises(NoSpelling) as caught:
            substitute("q0_", ["i", "N31a", "x", None])
        self.assertEqual(caught.exception.at, 2)
        self.assertRaises(NoSpelling, substitute, "q0_", ["QN1aEFEv"])

    def test_texts_of_any_length(self):
        kind = "q0_"
        for _ in range(70):
            kind = substitute("N1aIq0_q0_EE", [kind])
        self.assertEqual(length(kind), deep.path_tower_size(70, len("$0")))
        self.assertEqual(substitute(kind, ["i"]), deep.spelled(deep.path_tower(70)))
        self.assertEqual(occurrences(substitute(kind, [deep.BIG]), "i"), 2 ** 70 * 3 ** 45)
        self.assertEqual(occurrences(substitute(kind, ["q5_"]), "q5_"), 2 ** 70)

    def test_chains(self):
        # Each parameter stands for two of the one before it, one after the other.
        kind = "q29_"
        for number in range(29, 0, -1):
            arguments = [f"q{one}_" for one in range(number)] + [f"Fq{number - 1}_q{number - 1}_Ei"]
            kind = substitute(kind, arguments)
        self.assertEqual(occurrences(kind, "q0_"), 2 ** 29)
        self.assertEqual(substitute(kind, ["b"]).count("F"), 29)


if __name__ == "__main__":
    unittest.main()
