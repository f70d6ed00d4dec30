"""[18]: tables of declarations."""

import unittest

from onesymbol.errors import NoIdentifier, NoPath, NoSpelling, Twice
from onesymbol.table import Table
from tests import deep
from tests.helpers import STRANGE


def book(*spellings):
    found = Table()
    for spelling in spellings:
        found.add(spelling)
    return found


def contents(table):
    """All that a table says of itself."""
    lists = [[], ["a"], ["a", "b"], ["f"], ["a", "b", "c"]]
    paths = ["N1aE", "N1fE", "N1a1bE", "N1aIiEE"]
    return ([table.declarations()] + [table.members(names) for names in lists] + [table.functions(path) for path in paths]
            + [table.resolve(path, ["i"]) for path in paths])


class AddTest(unittest.TestCase):

    def test_an_empty_table(self):
        self.assertEqual(book().declarations(), [])
        self.assertEqual(book().members([]), [])
        self.assertEqual(book().members(["a"]), [])
        self.assertEqual(book().functions("N1aE"), [])

    def test_returns_nothing(self):
        self.assertIsNone(Table().add("QN1aEFEv"))

    def test_tables_do_not_share(self):
        one, other = Table(), Table()
        one.add("QN1aEFEv")
        self.assertEqual(other.declarations(), [])
        other.add("QN1aEFEv")
        self.assertEqual(one.declarations(), other.declarations())

    def test_symbols_are_returned(self):
        self.assertEqual(book("QN1aIFEvEEFEv").declarations(), ["QN1aIFEvEEZ2_"])
        self.assertEqual(book("QN1aEFN1aEPiPiEv").declarations(), ["QN1aEFZ1_PiZ1_Ev"])
        self.assertEqual(book("QN1a1bEFN1aEEN1a1bE").declarations(), ["QN1a1bEFZ2_EZ1_"])

    def test_in_the_order_of_the_paths_then_of_the_functions(self):
        spellings = ["QN1AEFEv", "QN1_EFEv", "QN1aEFEi", "QN1aEFEv", "QN1aEFbEv", "QN1aEFiEi", "QN1aEFiEv", "QN1aEFiiEi",
                     "QN1aEFN1bEEi", "QN1a1bEFEi", "QN1aIL1_EEFEi", "QN1aIL10_EEFEi", "QN1aIL2_EEFEi", "QN1aIiEEFEi",
                     "QN2aaEFEi", "QN1bEFEi"]
        # Of what follows ::a the end is the least, then : and < and a letter; of what follows ::a<1 it is 0, then >.
        expected = ["QN1AEFEv", "QN1_EFEv", "QN1aEFEi", "QN1aEFEv", "QN1aEFN1bEEi", "QN1aEFbEv", "QN1aEFiEi", "QN1aEFiEv",
                    "QN1aEFiiEi", "QN1a1bEFEi", "QN1aIL10_EEFEi", "QN1aIL1_EEFEi", "QN1aIL2_EEFEi", "QN1aIiEEFEi",
                    "QN2aaEFEi", "QN1bEFEi"]
        self.assertEqual(book(*spellings).declarations(), expected)
        self.assertEqual(book(*spellings[::-1]).declarations(), expected)
        self.assertEqual(book(*spellings[7:], *spellings[:7]).declarations(), expected)

    def test_an_equal_declaration(self):
        for first, others in [("QN1aEFEv", ["QN1aEFEv"]), ("QN1aIFEvEEZ2_", ["QN1aIFEvEEFEv", "QN1aIFEvEEZ2_"]),
                              ("QN1aIFEvEEFEv", ["QN1aIFEvEEZ2_"]), ("QN1aEFPiZ1_Ev", ["QN1aEFPiPiEv"]),
                              ("QN1aEFN1aEEv", ["QN1aEFZ1_Ev"])]:
            table = book("QN1fEFEv", first, "QN1aEFbEv")
            before = contents(table)
            for other in others:
                self.assertRaises(Twice, table.add, other)
                self.assertEqual(contents(table), before)

    def test_declarations_that_are_not_equal(self):
        spellings = ["QN1aEFEv", "QN1bEFEv", "QN1aEFEi", "QN1aEFiEv", "QN1a1bEFEv", "QN1aIiEEFEv", "QN1aEFq0_Ev", "QN1aEFq1_Ev"]
        self.assertEqual(len(book(*spellings).declarations()), 8)

    def test_errors_change_nothing(self):
        table = book("QN1a1bEFq0_Ev", "QN1aEFiEv", "QN1fEFPiEv")
        before = contents(table)
        for wrong in STRANGE + ["", "N1a", "QN1aE", "QN1aEi", "QN1aEFEv ", "QN1a1b1cEFPiZ9_Ev", "QN31a", "QPiFEv"]:
            self.assertRaises(NoSpelling, table.add, wrong)
            self.assertRaises(NoSpelling, table.functions, wrong)
            self.assertRaises(NoSpelling, table.resolve, wrong, ["i"])
            self.assertRaises(NoSpelling, table.resolve, "N1aE", ["i", wrong])
        self.assertRaises(Twice, table.add, "QN1aEFiEv")
        self.assertRaises(NoIdentifier, table.members, ["z z"])
        self.assertRaises(NoPath, table.functions, "PN1aE")
        self.assertEqual(contents(table), before)
        table.add("QN1zEFEv")
        self.assertEqual(table.declarations(), before[0] + ["QN1zEFEv"])

    def test_at(self):
        for wrong, at in [("QN1aEZ1_", 5), ("QN1aEFEvE", 8), ("QN31a", 3), ("i", 0), ("QN1aE", 5), (None, 0), ("QN1aIFEvEEZ1_", 11)]:
            with self.assertRaises(NoSpelling) as caught:
                Table().add(wrong)
            self.assertEqual(caught.exception.at, at)

    def test_texts_that_cannot_be_written_out(self):
        plains = ["QN1aEF" + deep.BIG + "Ev", "QN1aEF" + deep.BIG_OTHER + "Ev", "QN1aI" + deep.BIG + "EEFEv",
                  "QN1aI" + deep.BIG_OTHER + "EEFEv", "QN1aI" + deep.BIG + "E1bEFEv", "QN1aI" + deep.BIG_OTHER + "EEFEi"]
        # The leaf bool of the other one is less than int.
        expected = [plains[1], plains[0], plains[5], plains[3], plains[2], plains[4]]
        for many in range(len(plains)):
            self.assertEqual(book(*plains[many:], *plains[:many]).declarations(), expected)
            self.assertRaises(Twice, book(*plains).add, plains[many])
        self.assertEqual(book(*plains).functions("N1aE"), ["F" + deep.BIG_OTHER + "Ev", "F" + deep.BIG + "Ev"])
        self.assertEqual(book(*plains).functions("N1aI" + deep.BIG + "EE"), ["FEv"])
        self.assertEqual(book(*plains).functions("N1aI" + deep.BIG_OTHER + "EE"), ["FEi", "FEv"])
        self.assertEqual(book(*plains).members(["a"]), ["b"])

    def test_sixty_declarations(self):
        spellings = [f"QN1fEFA{number}_iEv" for number in range(1, 61)]
        expected = [f"QN1fEFA{number}_iEv" for number in sorted(range(1, 61), key="{} ".format)]
        self.assertEqual(book(*spellings).declarations(), expected)
        self.assertEqual(book(*spellings).functions("N1fE"), [spelling[5:] for spelling in expected])
        spellings = [f"QN{len(str(number)) + 1}f{number}EFEv" for number in range(1, 61)]
        expected = [f"QN{len(str(number)) + 1}f{number}EFEv" for number in sorted(range(1, 61), key=str)]
        self.assertEqual(book(*spellings).declarations(), expected)

    def test_many_texts_that_differ_far_inside(self):
        routes = [deep.ROUTE[:many] + [0] * (45 - many) for many in range(46) if many == 0 or deep.ROUTE[many - 1]]
        towers = ["QN1aEF" + deep.spelled(deep.tower_with(route, ("bool",))) + "Ev" for route in routes]
        self.assertGreater(len(towers), 30)
        # The earlier bool stands where the other ones have int.
        expected = [towers[place] for place in sorted(range(len(routes)), key=lambda place: deep.index_of(routes[place]))]
        self.assertEqual(book(*towers).declarations(), expected)
        self.assertEqual(book(*towers[::-1]).declarations(), expected)


class MembersTest(unittest.TestCase):

    TABLE = ("QN1aEFEv", "QN1a1bEFEv", "QN1a1bEFiEv", "QN1a1cIiE1dEFEv", "QN1aIL1_E1xIL2_E1yEFEv", "QN2abEFEv", "QN1b1aEFEv",
             "QN1a1b1BEFEv")

    def members(self, *names):
        return book(*self.TABLE).members(list(names))

    def test_first_identifiers(self):
        self.assertEqual(self.members(), ["a", "ab", "b"])

    def test_of_names(self):
        self.assertEqual(self.members("a"), ["b", "c", "x"])
        self.assertEqual(self.members("a", "b"), ["B"])
        self.assertEqual(self.members("b"), ["a"])
        self.assertEqual(self.members("ab"), [])
        self.assertEqual(self.members("b", "a"), [])
        self.assertEqual(self.members("a", "b", "B"), [])
        self.assertEqual(self.members("z"), [])
        self.assertEqual(self.members("B"), [])

    def test_behind_arguments(self):
        self.assertEqual(self.members("a", "c"), ["d"])
        self.assertEqual(self.members("a", "c", "d"), [])
        # The a before this x has arguments.
        self.assertEqual(self.members("a", "x"), [])
        self.assertEqual(self.members("a", "x", "y"), [])
        table = book("QN1aIiE1bIiE1cIiE1dEFEv", "QN1f1gIiE1h1iEFEv")
        self.assertEqual([table.members(names) for names in ([], ["a"], ["a", "b"], ["a", "b", "c"])], [["a", "f"], ["b"], [], []])
        self.assertEqual([table.members(names) for names in (["f"], ["f", "g"], ["f", "g", "h"])], [["g"], ["h"], []])
        self.assertEqual(book("QN1aIiEEFEv").members(["a"]), [])
        self.assertEqual(book("QN1aIN1b1cEE1dEFEv").members(["b"]), [])

    def test_in_ascending_order(self):
        table = book(*[f"QN1a{len(name)}{name}EFEv" for name in ["b", "B", "_", "a", "Z", "aa", "a1", "a_", "aA", "z"]])
        self.assertEqual(table.members(["a"]), ["B", "Z", "_", "a", "a1", "aA", "a_", "aa", "b", "z"])

    def test_paths_of_functions_play_no_part(self):
        self.assertEqual(book("QN1aEFN1b1cEEN1dE").members([]), ["a"])
        self.assertEqual(book("QN1aEFN1b1cEEN1dE").members(["b"]), [])

    def test_what_is_no_list_of_identifiers(self):
        table = book(*self.TABLE)
        for names in [[""], ["a", ""], ["1"], ["a b"], ["a" * 31], ["a", None], [["a"]], [b"a"], [True], "a", "", ("a",), (), {}]:
            self.assertRaises(NoIdentifier, table.members, names)
        for thing in STRANGE:
            self.assertRaises(NoIdentifier, table.members, [thing])
            self.assertRaises(NoIdentifier, table.members, ["a", thing])
            if not isinstance(thing, list):
                self.assertRaises(NoIdentifier, table.members, thing)


class FunctionsTest(unittest.TestCase):

    def test_of_a_path(self):
        table = book("QN1fEFiEv", "QN1fEFPiPiEv", "QN1fEFEi", "QN1gEFEv", "QN1f1gEFEv", "QN1fIiEEFEb", "QN1fEFN1fEEv")
        self.assertEqual(table.functions("N1fE"), ["FEi", "FN1fEEv", "FiEv", "FPiZ1_Ev"])
        self.assertEqual(table.functions("N1gE"), ["FEv"])
        self.assertEqual(table.functions("N1f1gE"), ["FEv"])
        self.assertEqual(table.functions("N1fIiEE"), ["FEb"])

    def test_of_a_path_without_declarations(self):
        table = book("QN1f1gEFEv", "QN1fIiEEFEb")
        for path in ["N1fE", "N1gE", "N1fIbEE", "N1f1g1hE", "N2fgE", "N1fIiE1gE", "N1FE"]:
            self.assertEqual(table.functions(path), [])

    def test_a_path_in_another_spelling(self):
        table = book("QN1aIN1aEPiPiEEFEv", "QN1aIPiPiE1bIPiEEFEv")
        for path in ["N1aIN1aEPiPiEE", "N1aIZ1_PiZ1_EE", "N1aIN1aEPiZ1_EE"]:
            self.assertEqual(table.functions(path), ["FEv"])
        for path in ["N1aIPiPiE1bIPiEE", "N1aIPiZ1_E1bIZ3_EE"]:
            self.assertEqual(table.functions(path), ["FEv"])

    def test_each_function_is_written_by_itself(self):
        self.assertEqual(book("QN1aIFEvEEZ2_").functions("N1aIFEvEE"), ["FEv"])
        self.assertEqual(book("QN1a1bEFZ2_PZ1_EZ3_").functions("N1a1bE"), ["FN1aEPNZ1_1bEEZ3_"])

    def test_other_kinds(self):
        table = book("QN1fEFiEv")
        for spelling in ["i", "q0_", "PN1fE", "FEv", "FEN1fE", "A1_N1fE", "KN1fE", deep.BIG]:
            self.assertRaises(NoPath, table.functions, spelling)

    def test_no_spellings(self):
        table = book("QN1fEFiEv")
        for wrong, at in [("N1f", 3), ("N1fEE", 4), ("QN1fEFiEv", 0), ("", 0), ("FPiZ2_Ev", 4), (["N1fE"], 0), (None, 0)]:
            with self.assertRaises(NoSpelling) as caught:
                table.functions(wrong)
            self.assertEqual(caught.exception.at, at)
        for thing in STRANGE:
            self.assertRaises(NoSpelling, table.functions, thing)


if __name__ == "__main__":
    unittest.main()
