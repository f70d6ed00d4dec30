"""[15] and [16]: matching and unification."""

import unittest

from onesymbol.changes import match, substitute, unify
from onesymbol.parts import occurrences
from onesymbol.reading import canonical
from onesymbol.texts import length
from tests import deep


def chain(many, last, first="q{}_"):
    """Two functions: in one the parameters, in the other one for each two of the next one, and at the end `last`."""
    one = "F" + "".join([first.format(number) for number in range(many)]) + "Ev"
    other = "F" + "".join([f"Fq{number}_q{number}_Ei" for number in range(1, many)]) + last + "Ev"
    return one, other


class MatchTest(unittest.TestCase):

    def test_parameters(self):
        self.assertEqual(match("q0_", "i"), ["i"])
        self.assertEqual(match("q0_", "FPiPiEv"), ["FPiZ1_Ev"])
        self.assertEqual(match("Fq0_Eq1_", "FiEb"), ["i", "b"])
        self.assertEqual(match("Fq1_Eq0_", "FiEb"), ["b", "i"])
        self.assertEqual(match("FPq0_q1_Ev", "FPN1aEZ2_Ev"), ["N1aE", "N1aE"])
        for begin, end in [("P", ""), ("R", ""), ("K", ""), ("A7_", ""), ("F", "Ei"), ("Fi", "Ei"), ("FE", ""), ("N1xI", "EE"),
                           ("N1xIL3_", "E1aE"), ("N1x1aI", "EE"), ("PKFRA2_", "Ei")]:
            self.assertEqual(match(begin + "q0_" + end, begin + "Pb" + end), ["Pb"])

    def test_patterns_without_parameters(self):
        for spelling in ["i", "Pi", "N1aIL3_iE1bE", "FPiZ1_Ev", "A2_i"]:
            self.assertEqual(match(spelling, spelling), [])
            for other in ["v", "Pv", "N1aIL4_iE1bE", "FPiZ1_Ei", "A3_i", "Ki", "q0_", "N1aIL3_iE1b1cE", "N1aIL3_iiE1bE", "N1bE",
                          "FPiEv", "N1aIiL3_E1bE", "N1aE", "N1a1bE"]:
                self.assertIsNone(match(spelling, other))

    def test_gaps(self):
        self.assertEqual(match("q3_", "i"), [None, None, None, "i"])
        self.assertEqual(match("Fq2_q0_Ev", "FibEv"), ["b", None, "i"])
        self.assertEqual(match("Pq99_", "Pi"), [None] * 99 + ["i"])

    def test_one_parameter_for_several_kinds(self):
        self.assertEqual(match("Fq0_Eq0_", "FiEi"), ["i"])
        self.assertEqual(match("Fq0_Eq0_", "FPiEPi"), ["Pi"])
        self.assertIsNone(match("Fq0_Eq0_", "FiEb"))
        self.assertIsNone(match("Fq0_Pq0_Ev", "FPiZ1_Ev"))
        self.assertIsNone(match("FPq0_Z1_Ev", "FPiPbEv"))
        self.assertEqual(match("FPq0_Z1_Ev", "FPiPiEv"), ["i"])
        self.assertIsNone(match("Fq0_q0_Ev", "FN1aEN1a1bEEv"))

    def test_no_arguments(self):
        for pattern, spelling in [("Pq0_", "i"), ("Pq0_", "Ri"), ("Pq0_", "q0_"), ("A2_q0_", "A3_i"), ("Fq0_Ev", "FEv"),
                                  ("Fq0_Ev", "FiiEv"), ("Fq0_Ev", "FiEi"), ("N1aIq0_EE", "N1bIiEE"), ("N1aIq0_EE", "N1aE"),
                                  ("N1aIq0_EE", "N1aIiiEE"), ("N1aIq0_EE", "N1aIiE1bE"), ("N1aIq0_E1bE", "N1aIiEE"),
                                  ("N1a1bIq0_EE", "N1bIiEE"), ("N1bIq0_EE", "N1a1bIiEE"), ("N1bIq0_EE", "N1aIiE1bIiEE"),
                                  ("N1aIq0_L3_EE", "N1aIiL4_EE"), ("N1aIq0_q1_EE", "N1aIiEE"), ("Kq0_", "Pi")]:
            self.assertIsNone(match(pattern, spelling), (pattern, spelling))

    def test_integers(self):
        self.assertIsNone(match("N1aIq0_EE", "N1aIL3_EE"))
        self.assertIsNone(match("N1aIL3_EE", "N1aIq3_EE"))
        self.assertIsNone(match("N1aIL3_EE", "N1aIiEE"))
        self.assertIsNone(match("N1aIq0_q0_EE", "N1aIL3_L3_EE"))
        self.assertEqual(match("N1aIL3_q0_EE", "N1aIL3_iEE"), ["i"])

    def test_parameters_of_the_spelling_are_constants(self):
        self.assertEqual(match("q0_", "Pq0_"), ["Pq0_"])
        self.assertEqual(match("q0_", "q0_"), ["q0_"])
        self.assertEqual(match("q0_", "q7_"), ["q7_"])
        self.assertEqual(match("Fq0_Eq1_", "Fq1_Eq0_"), ["q1_", "q0_"])
        self.assertEqual(match("Fq0_q1_Ev", "FPq1_Pq0_Ev"), ["Pq1_", "Pq0_"])
        self.assertIsNone(match("Fq0_q0_Ev", "Fq0_q1_Ev"))
        self.assertIsNone(match("Fq0_q0_Ev", "Fq0_Pq0_Ev"))
        self.assertEqual(match("Fq0_q1_Ev", "Fq2_q2_Ev"), ["q2_", "q2_"])
        self.assertIsNone(match("i", "q0_"))
        self.assertIsNone(match("Fiq0_Ev", "Fq0_q0_Ev"))

    def test_paths(self):
        self.assertEqual(match("N1aIq0_E1bIq1_EE", "N1aIiE1bIvEE"), ["i", "v"])
        self.assertEqual(match("N1aIq0_E1bE", "N1aIN1aIiE1bEE1bE"), ["N1aIiE1bE"])
        self.assertEqual(match("FN1aIq0_EENZ1_1bEEv", "FN1aIPiEENZ1_1bEEv"), ["Pi"])
        self.assertIsNone(match("FN1aIq0_EENZ1_1bEEv", "FN1aIPiEEN1aIPbE1bEEv"))

    def test_texts_of_any_length(self):
        pattern = deep.spelled(deep.tower(45, ("parameter", 1)))
        self.assertEqual(match(pattern, deep.BIG), [None, "i"])
        self.assertIsNone(match(pattern, deep.BIG_OTHER))
        found = match(deep.spelled(deep.tower_with(deep.ROUTE, ("parameter", 0))), deep.BIG_OTHER)
        self.assertEqual(found, ["b"])
        self.assertEqual(match("q0_", deep.BIG), [deep.BIG])
        self.assertEqual(match(deep.spelled(deep.tower(5, ("parameter", 0))), deep.BIG), [deep.spelled(deep.tower(40))])

    def test_chains(self):
        one, other = chain(30, "i")
        arguments = [f"Fq{number}_q{number}_Ei" for number in range(1, 30)] + ["i"]
        self.assertEqual(match(one, other), arguments)
        self.assertIsNone(match(other, one))

    def test_substituted_patterns(self):
        for pattern in ["q0_", "Fq0_q1_q0_Eq3_", "N1aIq0_L3_E1bIFq1_EPq0_EE", "A3_KFq0_Pq0_Eq1_"]:
            arguments = ["Pi", "N1aIZ1_EE", "q0_", "Fq1_Pq2_Ev"]
            found = match(pattern, substitute(pattern, arguments))
            for index, symbol in enumerate(found):
                self.assertEqual(symbol, arguments[index] if f"q{index}_" in pattern else None)


class UnifyTest(unittest.TestCase):

    def check(self, one, other, expected):
        self.assertEqual(unify(one, other), expected, (one, other))
        self.assertEqual(unify(other, one), expected, (other, one))

    def test_parameters(self):
        self.check("FPq0_Eq1_", "Fq2_Ei", "FPq0_Ei")
        self.check("q0_", "i", "i")
        self.check("q0_", "PPi", "PPi")
        self.check("q3_", "N1aIL3_EE", "N1aIL3_EE")
        self.check("Fq0_Eq1_", "FiEb", "FiEb")
        self.check("Fq0_bEv", "Fiq0_Ev", None)
        self.check("Fq0_bEv", "Fiq1_Ev", "FibEv")
        for begin, end in [("P", ""), ("R", ""), ("K", ""), ("A7_", ""), ("F", "Ei"), ("Fi", "Ei"), ("FE", ""), ("N1xI", "EE"),
                           ("N1xIL3_", "E1aE"), ("N1x1aI", "EE"), ("PKFRA2_", "Ei")]:
            self.check(begin + "q0_" + end, begin + "Pb" + end, begin + "Pb" + end)

    def test_numbered_by_their_first_occurrence(self):
        self.check("q5_", "q5_", "q0_")
        self.check("q5_", "q7_", "q0_")
        self.check("Fq5_q3_q5_Eq9_", "Fq5_q3_q5_Eq9_", "Fq0_q1_q0_Eq2_")
        self.check("Fq5_Eq3_", "Fq3_Eq5_", "Fq0_Eq0_")
        self.check("Fq1_Eq0_", "Fq2_Eq3_", "Fq0_Eq1_")
        self.check("N1aIq4_E1bIq2_q4_EE", "N1aIq4_E1bIq2_q4_EE", "N1aIq0_E1bIq1_q0_EE")
        self.check("Fq0_Pq1_Ev", "FPq2_q3_Ev", "FPq0_Pq1_Ev")
        self.check("Fq1_q0_Ev", "FFq8_q9_Ei" + "q8_Ev", "FFq0_q1_Eiq0_Ev")
        self.check("Fq0_q99_Ev", "Fq98_q97_Ev", "Fq0_q1_Ev")

    def test_the_same_kind_for_the_same_number(self):
        self.check("Fq0_q0_Ev", "FibEv", None)
        self.check("Fq0_q0_Ev", "Fiq1_Ev", "FiiEv")
        self.check("Fq0_q0_Ev", "Fq1_iEv", "FiiEv")
        self.check("Fq0_q1_Ev", "Fiq0_Ev", "FiiEv")
        self.check("Fq0_q0_Ev", "FPq1_Pq2_Ev", "FPq0_Z1_Ev")
        self.check("Fq0_q0_Ev", "FPq1_Rq2_Ev", None)
        self.check("Fq0_q0_q1_Eq1_", "Fq1_q2_q2_Ei", "FiiiEi")
        self.check("FPq0_q0_Ev", "Fq1_q2_Ev", "FPq0_q0_Ev")
        self.check("Fq0_q1_q2_q0_Ev", "Fq1_q2_iPq3_Ev", None)

    def test_what_differs(self):
        for one, other in [("i", "b"), ("Pi", "Ri"), ("A2_q0_", "A3_q0_"), ("Fq0_Ev", "FEv"), ("Fq0_Ev", "Fq0_q1_Ev"),
                           ("Fq0_Ev", "Fq0_Ei"), ("N1aE", "N1bE"), ("N1aE", "N1a1bE"), ("N1aIq0_EE", "N1aE"),
                           ("N1aIq0_EE", "N1aIq0_q1_EE"), ("N1aIq0_E1bE", "N1aIq0_EE"), ("N1a1aE", "N1aE"), ("N1b1aE", "N1aE"),
                           ("N1aIq0_E1bE", "N1aIq1_E1cE"), ("N1aIiE1bE", "N1aIbE1bE"), ("Pq0_", "i"), ("N1aIiE1bE", "N1a1bE")]:
            self.check(one, other, None)

    def test_integers(self):
        self.check("N1aIq0_EE", "N1aIL3_EE", None)
        self.check("N1aIL3_EE", "N1aIL4_EE", None)
        self.check("N1aIL3_EE", "N1aIL3_EE", "N1aIL3_EE")
        self.check("N1aIq0_q0_EE", "N1aIq1_L3_EE", None)
        self.check("N1aIL3_q3_EE", "N1aIL3_iEE", "N1aIL3_iEE")
        self.check("N1aIL3_EE", "N1aIA3_iEE", None)

    def test_a_parameter_that_would_stand_in_itself(self):
        self.check("Pq0_", "q0_", None)
        self.check("q0_", "q0_", "q0_")
        self.check("Fq0_q1_Ev", "FPq1_Pq0_Ev", None)
        self.check("Fq0_q1_Ev", "FPq1_q0_Ev", None)
        self.check("Fq0_q1_Ev", "Fq1_q0_Ev", "Fq0_q0_Ev")
        self.check("q0_", "N1aIq0_EE", None)
        self.check("q0_", "N1aIq0_E1bE", None)
        self.check("q0_", "N1a1bIL3_q0_E1cE", None)
        self.check("q0_", "FEq0_", None)
        self.check("q0_", "A3_q0_", None)
        self.check("Fq0_q0_Ev", "Fq1_Pq1_Ev", None)
        self.check("Fq0_q1_q0_Ev", "Fq1_q2_Pq2_Ev", None)
        # It stands there for a prefix of the path that it is in; that is no kind in which it occurs.
        self.check("Fq0_N1aIq0_EEEv", "FN1aEq1_Ev", "FN1aENZ1_IZ1_EEEv")
        self.check("Fq0_N1a1bIq0_EEEv", "FN1aENZ1_1bIq1_EEEv", "FN1aENZ1_1bIZ2_EEEv")

    def test_paths(self):
        self.check("N1aIq0_E1bIq1_EE", "N1aIiE1bIvEE", "N1aIiE1bIvEE")
        self.check("FN1aIq0_EENZ1_1bEEq1_", "FN1aIPq2_EEq1_Ei", None)
        self.check("FN1aIq0_EENZ1_1bEEi", "FN1aIPq2_EEq1_Ei", "FN1aIPq0_EENZ1_1bEEi")
        self.check("Fq0_q0_Ev", "FN1aIq1_E1bEN1aIiE1bEEv", "FN1aIiE1bEZ1_Ev")

    def test_other_spellings(self):
        self.check("FPq0_Pq0_Eq1_", "Fq2_q2_Ei", "FPq0_Z1_Ei")
        self.check("FPiPiEq4_", "FPiZ1_EPi", "FPiZ1_EZ1_")

    def test_chains(self):
        one, other = chain(30, "i")
        found = unify(one, other)
        self.assertEqual(found, canonical(found))
        self.assertEqual(occurrences(found, "i"), sum(2 ** many - 1 for many in range(1, 31)))
        one, other = chain(30, "q30_")
        found = unify(one, other)
        self.assertEqual(unify(other, one), found)
        self.assertEqual(occurrences(found, "q0_"), 2 ** 30 - 1)
        self.assertEqual(occurrences(found, "q1_"), 0)

    def test_closed_chains(self):
        for many in (2, 3, 30):
            one, other = chain(many, "Fq0_q0_Ei")
            self.check(one, other, None)
            one, other = chain(many, "Pq0_")
            self.check(one, other, None)
        # Closed, but each one is only another name for the next one.
        one = "F" + "".join([f"q{number}_" for number in range(30)]) + "Ev"
        other = "F" + "".join([f"q{(number + 1) - 30 * (number // 29)}_" for number in range(30)]) + "Ev"
        self.check(one, other, "F" + "q0_" * 30 + "Ev")

    def test_two_chains_that_must_be_equal(self):
        one = "F" + "".join([f"q{number}_" for number in range(60)]) + "q0_Ev"
        other = "F" + "".join([f"Fq{number}_q{number}_Ei" for number in range(1, 30)]) + "q29_"
        other += "".join([f"Fq{number}_q{number}_Ei" for number in range(31, 60)]) + "q59_" + "q30_Ev"
        found = unify(one, other)
        self.assertEqual(occurrences(found, "q0_"), 2 * (2 ** 30 - 1) + 2 ** 29)
        self.assertEqual(occurrences(found, "q1_"), 0)
        self.check(one, other[:-len("q59_q30_Ev")] + "iq30_Ev", found.replace("q0_", "i"))

    def test_texts_of_any_length(self):
        pattern = deep.spelled(deep.tower(45, ("parameter", 1)))
        self.check(pattern, deep.BIG, deep.BIG)
        self.check(pattern, deep.BIG_OTHER, None)
        self.check(deep.BIG, deep.BIG_OTHER, None)
        other = deep.spelled(deep.tower_with(deep.ROUTE, ("parameter", 0)))
        self.check(other, deep.BIG, deep.BIG)
        self.check(other, pattern, deep.BIG)
        other = deep.spelled(deep.tower_with(deep.ROUTE, ("parameter", 0), ("parameter", 1)))
        found = unify(other, pattern)
        self.assertEqual(found, deep.spelled(deep.tower(45, ("parameter", 0))))
        self.assertEqual(length(found), deep.tower_size(45, 2))
        self.check("q0_", deep.BIG, deep.BIG)
        self.check("Fq0_q0_Ev", "F" + deep.BIG + "q1_Ev", "F" + deep.BIG + "Z1_Ev")
        self.check("Fq0_Ev", "F" + deep.spelled(deep.tower(45, ("parameter", 0))) + "Ev", None)


if __name__ == "__main__":
    unittest.main()
