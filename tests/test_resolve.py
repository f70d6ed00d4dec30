"""[19]: overload resolution."""

import itertools
import unittest

from onesymbol.errors import NoArguments, NoPath, NoSpelling
from onesymbol.reading import canonical
from tests import deep
from tests.helpers import STRANGE
from tests.test_table import book


def overloads(*functions):
    return book(*["QN1fE" + function for function in functions])


class ResolveTest(unittest.TestCase):

    def check(self, functions, arguments, expected):
        """Whatever the order in which the functions are added."""
        for order in list(itertools.permutations(functions))[:24]:
            self.assertEqual(overloads(*order).resolve("N1fE", arguments), expected, (order, arguments))

    def test_no_candidate(self):
        self.assertEqual(book().resolve("N1fE", []), ("none",))
        self.check(["FiEv", "Fq0_Ev"], [], ("none",))
        self.check(["FiEv", "FPq0_Ev"], ["b"], ("none",))
        self.check(["FiEv", "FPq0_Ev", "Fq0_q1_Ev"], ["Ri"], ("none",))
        self.check(["Fq0_q0_Ev"], ["i", "b"], ("none",))
        self.check(["FN1aIq0_EEEv"], ["N1aIL3_EE"], ("none",))
        self.assertEqual(overloads("FiEv").resolve("N1gE", ["i"]), ("none",))
        self.assertEqual(overloads("FiEv").resolve("N1f1fE", ["i"]), ("none",))
        self.assertEqual(overloads("FiEv").resolve("N1fIiEE", ["i"]), ("none",))

    def test_one_candidate(self):
        self.check(["FEv"], [], ("one", "FEv", []))
        self.check(["FiEv", "FbEv"], ["b"], ("one", "FbEv", []))
        self.check(["FiEv", "FiiEv", "FEv"], ["i", "i"], ("one", "FiiEv", []))
        self.check(["Fq0_Ev", "Fq0_q1_Ev"], ["Pi"], ("one", "Fq0_Ev", ["Pi"]))
        self.check(["FPq0_Ev", "FRq0_Ev"], ["PPi"], ("one", "FPq0_Ev", ["Pi"]))

    def test_a_more_special_pattern(self):
        self.check(["FiEv", "Fq0_Ev"], ["i"], ("one", "FiEv", []))
        self.check(["FiEv", "Fq0_Ev"], ["b"], ("one", "Fq0_Ev", ["b"]))
        self.check(["FPq0_Ev", "Fq0_Ev"], ["Pi"], ("one", "FPq0_Ev", ["i"]))
        self.check(["Fq0_q0_Ev", "Fq0_q1_Ev"], ["i", "i"], ("one", "Fq0_q0_Ev", ["i"]))
        self.check(["Fq0_q0_Ev", "Fq0_q1_Ev"], ["i", "b"], ("one", "Fq0_q1_Ev", ["i", "b"]))
        self.check(["Fq0_Ev", "FPq0_Ev", "FPPq0_Ev", "FPPiEv"], ["PPi"], ("one", "FPPiEv", []))
        self.check(["Fq0_Ev", "FPq0_Ev", "FPPq0_Ev", "FPPiEv"], ["PPb"], ("one", "FPPq0_Ev", ["b"]))
        self.check(["Fq0_Ev", "FPq0_Ev", "FPPq0_Ev", "FPPiEv"], ["Pb"], ("one", "FPq0_Ev", ["b"]))
        self.check(["FN1aIq0_EEEv", "Fq0_Ev", "FN1aIN1aIq0_EEEEEv"], ["N1aIN1aIiEEEE"], ("one", canonical("FN1aIN1aIq0_EEEEEv"), ["i"]))

    def test_several(self):
        self.check(["Fiq0_Ev", "Fq0_iEv"], ["i", "i"], ("several", ["Fq0_iEv", "Fiq0_Ev"]))
        self.check(["FPq0_q1_Ev", "Fq0_Pq1_Ev"], ["Pi", "Pi"], ("several", ["Fq0_Pq1_Ev", "FPq0_q1_Ev"]))
        # A third one may be more special than both, or than one of them, or less special.
        self.check(["FPq0_q1_Ev", "Fq0_Pq1_Ev", "FPq0_Pq1_Ev"], ["Pi", "Pi"], ("one", "FPq0_Pq1_Ev", ["i", "i"]))
        self.check(["FPq0_q1_Ev", "Fq0_Pq1_Ev", "Fq0_q1_Ev"], ["Pi", "Pi"],
                   ("several", ["Fq0_q1_Ev", "Fq0_Pq1_Ev", "FPq0_q1_Ev"]))
        self.check(["FPiq1_Ev", "Fq0_Pq1_Ev", "FPq0_q1_Ev"], ["Pi", "Pb"],
                   ("several", ["Fq0_Pq1_Ev", "FPq0_q1_Ev", "FPiq1_Ev"]))
        self.check(["FPiq1_Ev", "Fq0_Pq1_Ev", "FPiPiEv"], ["Pi", "Pb"], ("several", ["Fq0_Pq1_Ev", "FPiq1_Ev"]))
        self.check(["FPiq1_Ev", "Fq0_Pq1_Ev", "FPiPiEv"], ["Pi", "Pi"], ("one", "FPiZ1_Ev", []))
        self.check(["Fq0_q0_q1_Ev", "Fq0_q1_q0_Ev"], ["i", "i", "i"], ("several", ["Fq0_q0_q1_Ev", "Fq0_q1_q0_Ev"]))

    def test_equal_but_for_the_numbers_of_the_parameters(self):
        self.check(["Fq0_Ev", "Fq1_Ev"], ["i"], ("several", ["Fq0_Ev", "Fq1_Ev"]))
        self.check(["Fq0_q1_Ev", "Fq1_q0_Ev"], ["i", "b"], ("several", ["Fq0_q1_Ev", "Fq1_q0_Ev"]))
        self.check(["Fq0_Ev", "Fq1_Ev", "FiEv"], ["i"], ("one", "FiEv", []))
        self.check(["Fq0_Ev", "Fq1_Ev", "FiEv"], ["b"], ("several", ["Fq0_Ev", "Fq1_Ev"]))
        self.check(["FPq0_Ev", "FPq1_Ev", "Fq0_Ev"], ["Pi"], ("several", ["Fq0_Ev", "FPq0_Ev", "FPq1_Ev"]))

    def test_equal_but_for_the_result(self):
        self.check(["FiEv", "FiEi"], ["i"], ("several", ["FiEi", "FiEv"]))
        self.check(["FEv", "FEi", "FEq0_"], [], ("several", ["FEq0_", "FEi", "FEv"]))
        self.check(["Fq0_Eq0_", "Fq0_Ei"], ["i"], ("several", ["Fq0_Eq0_", "Fq0_Ei"]))
        self.check(["FiEv", "FiEi", "Fq0_Ev"], ["b"], ("one", "Fq0_Ev", ["b"]))

    def test_the_result_plays_no_part(self):
        self.check(["FPq0_Eq0_", "Fq0_Ei"], ["Pb"], ("one", "FPq0_Eq0_", ["b"]))
        self.check(["Fq0_Eq5_"], ["b"], ("one", "Fq0_Eq5_", ["b"]))
        self.check(["FiEq5_"], ["i"], ("one", "FiEq5_", []))
        self.check(["FEPq0_"], [], ("one", "FEPq0_", []))

    def test_numbers_that_do_not_occur(self):
        self.check(["Fq2_Ev"], ["b"], ("one", "Fq2_Ev", [None, None, "b"]))
        self.check(["Fq3_q1_Eq0_"], ["b", "i"], ("one", "Fq3_q1_Eq0_", [None, "i", None, "b"]))
        self.check(["Fq3_q1_q2_Ev", "Fq0_q1_q0_Ev"], ["b", "i", "v"], ("one", "Fq3_q1_q2_Ev", [None, "i", "v", "b"]))

    def test_parameters_of_both_patterns(self):
        # q0_ of one and q0_ of the other one are not the same.
        self.check(["FPq0_q1_Ev", "Fq1_q0_Ev"], ["Pi", "b"], ("one", "FPq0_q1_Ev", ["i", "b"]))
        self.check(["FPq0_Ev", "Fq0_Ev"], ["PPi"], ("one", "FPq0_Ev", ["Pi"]))
        self.check(["Fq1_Pq1_Ev", "Fq0_q1_Ev"], ["i", "Pi"], ("one", "Fq1_Pq1_Ev", [None, "i"]))

    def test_other_spellings(self):
        table = book("QN1aIN1aEEEFPiPiEv", "QN1aIZ1_EEFPq0_q0_Ev")
        for path in ["N1aIN1aEEE", "N1aIZ1_EE"]:
            self.assertEqual(table.resolve(path, ["Pi", "Pi"]), ("one", "FPiZ1_Ev", []))
        table = overloads("Fq0_Ev")
        self.assertEqual(table.resolve("N1fE", ["FPiPiEv"]), ("one", "Fq0_Ev", ["FPiZ1_Ev"]))
        self.assertEqual(overloads("FFPiPiEvEv", "Fq0_Ev").resolve("N1fE", ["FPiZ1_Ev"]), ("one", "FFPiZ1_EvEv", []))

    def test_a_function_that_is_a_back_reference(self):
        table = book("QN1fIFPq0_EvEEZ2_")
        self.assertEqual(table.resolve("N1fIFPq0_EvEE", ["Pi"]), ("one", "FPq0_Ev", ["i"]))

    def test_texts_of_any_length(self):
        pattern = deep.spelled(deep.tower(45, ("parameter", 0)))
        functions = ["F" + deep.BIG + "Ev", "F" + pattern + "Ev", "Fq0_Ev"]
        self.check(functions, [deep.BIG], ("one", functions[0], []))
        self.check(functions, [deep.BIG_OTHER], ("one", "Fq0_Ev", [deep.BIG_OTHER]))
        self.check(functions, [deep.spelled(deep.tower(45, ("void",)))], ("one", functions[1], ["v"]))
        one = "F" + deep.spelled(deep.tower_with(deep.ROUTE, ("parameter", 0))) + "Ev"
        other = "F" + deep.spelled(deep.tower_with([0] + deep.ROUTE[1:], ("parameter", 0))) + "Ev"
        self.check([one, other], [deep.BIG], ("several", [other, one]))
        self.check([one, other], [deep.BIG_OTHER], ("one", one, ["b"]))
        self.check([one, other, functions[0]], [deep.BIG], ("one", functions[0], []))

    def test_sixty_declarations(self):
        table = overloads(*["F" + "P" * depth + "q0_Ev" for depth in range(60)])
        for depth in (0, 1, 30, 58):
            self.assertEqual(table.resolve("N1fE", ["P" * depth + "i"]), ("one", "F" + "P" * depth + "q0_Ev", ["i"]))
        self.assertEqual(table.resolve("N1fE", ["P" * 59 + "Ri"]), ("one", "F" + "P" * 59 + "q0_Ev", ["Ri"]))
        table = overloads(*[f"Fq{number}_Ev" for number in range(60)])
        self.assertEqual(table.resolve("N1fE", ["i"])[0], "several")
        self.assertEqual(len(table.resolve("N1fE", ["i"])[1]), 60)

    def test_values(self):
        table = overloads("Fq0_Ev", "FiEv", "FbEi", "FbEv")
        for arguments, kinds in [(["v"], (str, str, list)), (["b"], (str, list)), ([], (str,))]:
            found = table.resolve("N1fE", arguments)
            self.assertIs(type(found), tuple)
            self.assertEqual(tuple(map(type, found)), kinds)


class WrongTest(unittest.TestCase):

    def raised(self, path, arguments):
        try:
            overloads("FiEv", "Fq0_Ev").resolve(path, arguments)
        except (NoArguments, NoPath, NoSpelling) as error:
            return type(error), getattr(error, "at", None)

    def test_the_path(self):
        for arguments in [["i"], ["x"], None, ["q0_"], [None]]:
            self.assertEqual(self.raised("PN1fE", arguments), (NoPath, None))
            self.assertEqual(self.raised("i", arguments), (NoPath, None))
            self.assertEqual(self.raised("FN1fEEv", arguments), (NoPath, None))
            self.assertEqual(self.raised("N31a", arguments), (NoSpelling, 2))
            for thing in STRANGE:
                self.assertEqual(self.raised(thing, arguments), (NoSpelling, 0))

    def test_no_list(self):
        for path in ["N1fE", "N1gE"]:
            for thing in STRANGE + ["", "i", ("i",), {"i": 1}]:
                if not isinstance(thing, list):
                    self.assertEqual(self.raised(path, thing), (NoArguments, None))

    def test_no_spelling(self):
        for path in ["N1fE", "N1gE"]:
            for thing in STRANGE:
                self.assertEqual(self.raised(path, [thing]), (NoSpelling, 0))
                self.assertEqual(self.raised(path, ["q0_", "Pq0_", thing, "Pz"]), (NoSpelling, 0))
            self.assertEqual(self.raised(path, ["i", "Pz", "z"]), (NoSpelling, 1))
            self.assertEqual(self.raised(path, ["i", "FPiZ2_Ei", None]), (NoSpelling, 4))
            self.assertEqual(self.raised(path, ["QN1fEFiEv"]), (NoSpelling, 0))

    def test_parameters(self):
        for path in ["N1fE", "N1gE"]:
            for spelling in ["q0_", "q99_", "Pq0_", "N1aIq0_EE", "N1aIq0_E1bE", "FiEq0_", "FPiZ1_q3_Ev", "A3_KRq0_"]:
                self.assertEqual(self.raised(path, [spelling]), (NoArguments, None))
                self.assertEqual(self.raised(path, ["i", spelling, "i"]), (NoArguments, None))
        # Its own parameters are no argument's.
        self.assertIsNone(self.raised("N1fIq0_EE", ["i"]))


if __name__ == "__main__":
    unittest.main()
