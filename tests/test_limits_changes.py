"""[2]: the limits, and somewhat beyond them, for parts, texts, changes and tables."""

import unittest

from onesymbol.changes import match, rename, substitute, unify
from onesymbol.parts import identifier_many, occurrences, parts
from onesymbol.reading import canonical
from onesymbol.table import Table
from onesymbol.texts import character, first_difference, length, order, section
from tests import oracle
from tests.helpers import INT
from tests.test_limits import WRAPS, nested

LONG = ["F" + "i" * 9997 + "Ei", "F" + "Pi" * 4998 + "Ei", "N" + "1a" * 4999 + "E", "F" + "N1aE" * 2499 + "Ei",
        "N1aI" + "L0_" * 3330 + "EE", "FPi" + "Z1_" * 3331 + "Ei", "N" + "1aIL1_E" * 1428 + "E", "F" + "FEi" * 3332 + "Ei",
        "FN1aE" + "NZ1_1bIPiEE" * 905 + "Ei", "N1a" + "IZ1_E1a" * 1400 + "E"]


class NestingTest(unittest.TestCase):

    def test_kinds(self):
        for depth in (60, 61, 90, 150, 300):
            for wrap, begin, end in WRAPS:
                text = begin * depth + "i" + end * depth
                other = begin * depth + "Pb" + end * depth
                pattern = begin * depth + "q0_" + end * depth
                plain = oracle.plain(nested(depth, wrap, ("parameter", 0)))
                index = plain.index("$0")
                self.assertEqual(parts(text), [begin * many + "i" + end * many for many in range(1, depth + 1)])
                self.assertEqual(occurrences(text, begin + "i" + end), 1)
                self.assertEqual(length(pattern), len(plain))
                self.assertEqual(character(pattern, index), "$")
                self.assertEqual(section(pattern, index - 8, index + 2), plain[index - 8:index + 2])
                self.assertEqual(first_difference(text, pattern), index)
                self.assertEqual(order(text, other), -1)
                self.assertEqual(rename(text, ["a"], ["b"]), text)
                self.assertEqual(substitute(pattern, ["Pb"]), other)
                self.assertEqual(match(pattern, other), ["Pb"])
                self.assertEqual(unify(pattern, other), other)
                self.assertIsNone(unify(text, other))
                self.assertIsNone(unify(pattern, begin + pattern + end))

    def test_paths_in_arguments(self):
        for depth in (60, 61, 90, 150):
            names = [f"n{index}" for index in range(depth)]
            text = "".join([f"N{len(name)}{name}I" for name in names]) + "q0_" + "EE" * depth
            self.assertEqual(len(parts(text)), 2 * depth)
            self.assertEqual(identifier_many(text, "n59"), 1)
            self.assertEqual(rename(text, ["n59"], ["x"]), text.replace("3n59", "1x"))
            self.assertEqual(match(text, text.replace("q0_", "Pi")), ["Pi"])
            self.assertEqual(unify(text, text.replace("q0_", "Pq3_")), text.replace("q0_", "Pq0_"))
            self.assertEqual(first_difference(text, text.replace("q0_", "i")), sum([len(f"::{name}<") for name in names]))

    def test_tables(self):
        table = Table()
        for depth in (60, 90, 150):
            table.add("QN1fEF" + "P" * depth + "q0_Ev")
            self.assertEqual(table.resolve("N1fE", ["P" * depth + "i"]), ("one", "F" + "P" * depth + "q0_Ev", ["i"]))
            self.assertRaises(ValueError, table.add, "QN1fEF" + "P" * depth + "q0_Ev")
        self.assertEqual(table.resolve("N1fE", ["P" * 151 + "i"]), ("one", "F" + "P" * 150 + "q0_Ev", ["Pi"]))


class LengthTest(unittest.TestCase):

    def test_strings_of_10000_characters(self):
        for text in LONG:
            self.assertGreater(len(text), 9800)
            symbol = canonical(text)
            self.assertEqual(parts(text)[-1], symbol)
            self.assertEqual(occurrences(text, text), 1)
            self.assertEqual(len(section(text, 0, 1000)), 1000)
            self.assertEqual(section(text, length(text) - 1000, length(text))[-1], character(text, length(text) - 1))
            self.assertIsNone(first_difference(text, symbol))
            self.assertEqual(first_difference("F" + text + "Ei", "F" + text + "Ev"), length(text) + 22)
            self.assertEqual(rename(rename(text, ["a"], ["x", "y"]), ["x", "y"], ["a"]), symbol)
            self.assertEqual(substitute("q0_", [text] * 30), symbol)
            self.assertEqual(match("Fq0_q0_Ev", "F" + text + text + "Ev"), [symbol])
            self.assertEqual(unify("Fq0_q0_Ev", "Fq1_" + text + "Ev"), canonical("F" + text + text + "Ev"))
            table = Table()
            for end in ["Ei", "Ev", "Eb"]:
                table.add("QN1fEF" + text + end)
            self.assertEqual(table.functions("N1fE"), [canonical("F" + text + end) for end in ["Eb", "Ei", "Ev"]])
            self.assertEqual(table.resolve("N1fE", [text])[0], "several")

    def test_many_parameters(self):
        pattern = "F" + "".join([f"q{number}_" for number in range(200)]) + "Ev"
        spelling = "F" + "Pi" + "Z1_" * 199 + "Ev"
        self.assertEqual(match(pattern, spelling), ["Pi"] * 200)
        self.assertEqual(substitute(pattern, ["Pi"] * 200), spelling)
        self.assertEqual(unify(pattern, spelling), spelling)
        self.assertEqual(unify(pattern, pattern.replace("q", "q1000")), pattern)

    def test_more_than_sixty_declarations(self):
        table = Table()
        for number in range(150):
            table.add(f"QN1fEFA{number + 1}_q0_Ev")
        self.assertEqual(len(table.declarations()), 150)
        self.assertEqual(table.resolve("N1fE", ["A77_i"]), ("one", "FA77_q0_Ev", ["i"]))


class NumberTest(unittest.TestCase):

    def test_integers_of_many_digits(self):
        for digits in (99, 100, 101, 400):
            number = "9" * digits
            text = f"N1aIL{number}_A{number}_q0_EE"
            other = f"N1aIL{number}_A{number}0_q0_EE"
            self.assertEqual(length(text), 2 * digits + len("::a<, array of  $0>"))
            self.assertEqual(section(text, 4, 4 + digits), number)
            self.assertEqual(first_difference(text, other), 2 * digits + len("::a<, array of "))
            self.assertEqual(order(text, other), -1)
            self.assertEqual(parts(text)[1:], [f"A{number}_q0_", text])
            self.assertEqual(match(text, text.replace("q0_", "i")), ["i"])
            self.assertIsNone(match(text, other))
            self.assertIsNone(unify(text, other))
            self.assertEqual(substitute(text, ["i"]), text.replace("q0_", "i"))
            self.assertEqual(substitute(f"Pq{number}_", ["i"]), f"Pq{number}_")
            self.assertEqual(unify(f"Pq{number}_", "q0_"), "Pq0_")

    def test_indexes_of_many_digits(self):
        for number in (10 ** 99, 10 ** 101, 10 ** 400):
            for index in (number, -number):
                self.assertRaises(ValueError, character, "i", index)
                self.assertRaises(ValueError, section, "i", 0, index)
                self.assertRaises(ValueError, section, "i", index, index)


if __name__ == "__main__":
    unittest.main()
