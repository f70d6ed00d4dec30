"""[11] and [12]: long texts, their characters, sections, differences and order."""

import unittest

from onesymbol.errors import NoIndex
from onesymbol.kinds import plain
from onesymbol.reading import read
from onesymbol.texts import character, first_difference, length, order, section
from tests import deep
from tests.helpers import STRANGE
from tests.test_plain import TEXTS
from tests.test_symbols import SYMBOLS

SPELLINGS = [text for _, text in SYMBOLS]

# Two leaves of a tower whose texts begin alike, and where they differ, the first one being less.
LEAVES = [
    (("bool",), ("int",), 0),
    (("parameter", 1), ("parameter", 12), 2),
    (("parameter", 12), ("parameter", 2), 1),
    (("array", 1, ("int",)), ("array", 10, ("bool",)), 10),
    (("path", (("a", None),)), ("path", (("a", None), ("a", None))), 3),
    (("path", (("a", None),)), ("path", (("a", (1,)),)), 3),
    (("path", (("ab", None),)), ("path", (("abc", None),)), 4),
    (("const", ("int",)), ("const", ("void",)), 6),
]


class LengthTest(unittest.TestCase):

    def test_short_texts(self):
        for spelling in SPELLINGS:
            self.assertEqual(length(spelling), len(plain(read(spelling))))
        self.assertEqual(length("FiiEv"), 34)
        self.assertEqual(length("q123_"), 4)
        self.assertEqual(length("N1aIL0_L15_EE"), len("::a<0, 15>"))

    def test_texts_of_any_length(self):
        for levels in (10, 20, 45, 58):
            self.assertEqual(length(deep.spelled(deep.tower(levels))), deep.tower_size(levels))
            self.assertEqual(length(deep.spelled(deep.path_tower(levels))), deep.path_tower_size(levels))
        self.assertGreater(length(deep.BIG), 10 ** 20)
        self.assertEqual(length(deep.BIG_OTHER), length(deep.BIG) + 1)


class CharacterTest(unittest.TestCase):

    def test_every_index(self):
        for spelling in SPELLINGS[:60]:
            text = plain(read(spelling))
            self.assertEqual("".join([character(spelling, index) for index in range(len(text))]), text)

    def test_beyond_the_ends(self):
        for spelling in ["i", "N1aE", "FiiEv", deep.BIG]:
            many = length(spelling)
            self.assertEqual(len(character(spelling, 0)), 1)
            self.assertEqual(len(character(spelling, many - 1)), 1)
            for index in [-1, many, many + 1, 10 ** 99, -many, -10 ** 99]:
                self.assertRaises(NoIndex, character, spelling, index)

    def test_what_is_no_index(self):
        for index in STRANGE + ["0", "", [0], (0,), 0.0, 1.0]:
            self.assertRaises(NoIndex, character, "i", index)
            self.assertRaises(NoIndex, character, deep.BIG, index)

    def test_far_inside(self):
        for begin in range(0, 45):
            index = deep.index_of(deep.ROUTE[:begin] + [0] * (45 - begin))
            self.assertEqual("".join([character(deep.BIG, index + place) for place in range(-1, 4)]), "(int,")
        index = deep.index_of(deep.ROUTE)
        self.assertGreater(index, 10 ** 20)
        self.assertEqual("".join([character(deep.BIG, index + place) for place in range(3)]), "int")
        self.assertEqual("".join([character(deep.BIG_OTHER, index + place) for place in range(4)]), "bool")


class SectionTest(unittest.TestCase):

    def test_short_texts(self):
        for spelling in SPELLINGS[:40]:
            text = plain(read(spelling))
            for begin in range(0, len(text) + 1, 3):
                for end in range(begin, len(text) + 1, 2):
                    self.assertEqual(section(spelling, begin, end), text[begin:end])

    def test_of_no_character(self):
        for index in [0, 1, 2, 3]:
            self.assertEqual(section("i", index, index), "")
        many = length(deep.BIG)
        for index in [0, 1, 5, 10 ** 20, many - 1, many]:
            self.assertEqual(section(deep.BIG, index, index), "")

    def test_of_1000_and_1001_characters(self):
        spelling = "F" + "i" * 300 + "Ei"
        text = plain(read(spelling))
        many = len(text)
        for begin in [0, 1, 200, many - 1001, many - 1000]:
            self.assertEqual(section(spelling, begin, begin + 999), text[begin:begin + 999])
            self.assertEqual(section(spelling, begin, begin + 1000), text[begin:begin + 1000])
            self.assertRaises(NoIndex, section, spelling, begin, begin + 1001)
        self.assertRaises(NoIndex, section, spelling, 0, many)
        big = length(deep.BIG)
        for begin in [0, 10 ** 20, big - 1001, big - 1000]:
            self.assertEqual(len(section(deep.BIG, begin, begin + 1000)), 1000)
            self.assertRaises(NoIndex, section, deep.BIG, begin, begin + 1001)
        self.assertRaises(NoIndex, section, deep.BIG, 0, big)

    def test_beyond_the_ends(self):
        for spelling in ["i", "FiiEv", deep.BIG]:
            many = length(spelling)
            self.assertEqual(section(spelling, many - 1, many), character(spelling, many - 1))
            for begin, end in [(-1, 0), (-1, -1), (0, -1), (0, many + 1), (many, many + 1), (many + 1, many + 1), (2, 1),
                               (many, many - 1), (many + 1, many), (-2, -1), (10 ** 99, 10 ** 99)]:
                self.assertRaises(NoIndex, section, spelling, begin, end)

    def test_what_is_no_index(self):
        for index in STRANGE + ["0", [0], 0.0]:
            self.assertRaises(NoIndex, section, "i", index, 3)
            self.assertRaises(NoIndex, section, "i", 0, index)
            self.assertRaises(NoIndex, section, "i", index, index)
            self.assertRaises(NoIndex, section, deep.BIG, 10 ** 20, index)

    def test_sections_put_together(self):
        spelling = deep.spelled(deep.tower(6))
        text = plain(deep.tower(6))
        for step in (1, 7, 999, 1000):
            found = [section(spelling, begin, min(begin + step, len(text))) for begin in range(0, len(text), step)]
            self.assertEqual("".join(found), text)

    def test_near_both_ends(self):
        many = length(deep.BIG)
        end = plain(deep.tower(7))[-1000:]
        self.assertEqual(section(deep.BIG, many - 1000, many), end)
        self.assertEqual(section(deep.BIG, 0, 1000), ("function (" * 45 + "int, int) returning int, function (int, int) ret"
                                                      + plain(deep.tower(7))[10 * 7 + 48:])[:1000])

    def test_far_from_the_ends(self):
        index = deep.index_of([1] + [0] * 44)
        self.assertEqual(section(deep.BIG, index - 442 - 500, index - 442), plain(deep.tower(7))[-500:])
        self.assertEqual(section(deep.BIG, index - 442, index + 3), ", " + "function (" * 44 + "int")
        index = deep.index_of(deep.ROUTE)
        text = section(deep.BIG, index - 500, index) + section(deep.BIG, index, index + 500)
        self.assertEqual(section(deep.BIG, index - 500, index + 500), text)
        other = section(deep.BIG_OTHER, index - 500, index + 500)
        self.assertEqual(other, (text[:500] + "bool" + text[503:])[:1000])


class DifferenceTest(unittest.TestCase):

    def check(self, one, other, index, sign):
        self.assertEqual(first_difference(one, other), index, (one, other))
        self.assertEqual(first_difference(other, one), index, (one, other))
        self.assertEqual(order(one, other), sign, (one, other))
        self.assertEqual(order(other, one), -sign, (one, other))

    def test_all_pairs(self):
        known = [(plain(kind), spelling) for kind, spelling in SYMBOLS]
        known += [(text, deep.spelled(kind)) for kind, text in TEXTS]
        for text, one in known:
            for other_text, other in known:
                sign = (text > other_text) - (text < other_text)
                pairs = zip(text + "\n", other_text + "\n")
                index = None if sign == 0 else [left == right for left, right in pairs].index(False)
                self.check(one, other, index, sign)

    def test_equal_kinds_in_two_spellings(self):
        self.check("FPiPiEv", "FPiZ1_Ev", None, 0)
        self.check("N1aIN1aEE1cE", "N1aIZ1_E1cE", None, 0)
        inner = "F" * 40 + "PiPiEZ1_" + "Z1_EZ1_" * 39
        self.check(inner, "F" * 40 + "Pi" + "Z1_EZ1_" * 40, None, 0)
        self.check("F" + deep.BIG + deep.BIG + "Ei", "F" + deep.BIG + "Z1_Ei", None, 0)

    def test_a_text_that_is_the_beginning_of_the_other_one(self):
        self.check("N1aE", "N1a1bE", 3, -1)
        self.check("N1aE", "N1aIiEE", 3, -1)
        self.check("N1aE", "N2abE", 3, -1)
        self.check("N1a1bE", "N1a1bIL1_E1cE", 6, -1)
        self.check("q1_", "q12_", 2, -1)
        self.check("FEN1aE", "FEN1a1bE", len("function () returning ::a"), -1)
        self.check("N1aE", "N1a1b1c1d1e1fE", 3, -1)

    def test_numbers_that_begin_alike(self):
        self.check("q1_", "q2_", 1, -1)
        self.check("q12_", "q2_", 1, -1)
        self.check("q10_", "q100_", 3, -1)
        self.check("A1_i", "A12_i", 10, -1)
        self.check("A12_i", "A2_i", 9, -1)
        self.check("A1_i", "A1_b", 11, 1)
        self.check("N1aIL1_EE", "N1aIL10_EE", 5, 1)
        self.check("N1aIL1_L1_EE", "N1aIL10_EE", 5, -1)
        self.check("Fq1_Ei", "Fq10_Ei", 12, -1)

    def test_identifiers_that_begin_alike(self):
        self.check("N2abE", "N2acE", 3, -1)
        self.check("N2abE", "N3abcE", 4, -1)
        self.check("N1a1bE", "N2abE", 3, -1)
        self.check("N1aIiEE", "N2abE", 3, -1)
        self.check("N1aIiEE", "N1a1bE", 3, 1)
        self.check("N1aE", "N1AE", 2, 1)
        self.check("N1_E", "N1aE", 2, -1)
        self.check("N1_E", "N1ZE", 2, 1)

    def test_items_of_other_numbers(self):
        self.check("FEi", "FiEi", 10, -1)
        self.check("FiEi", "FiiEi", 13, -1)
        self.check("N1aIiEE", "N1aIiiEE", 7, 1)
        self.check("N1aIiEE", "N1aIiE1bE", 8, -1)
        self.check("N1aIL1_EE", "N1aIiEE", 4, -1)

    def test_far_inside(self):
        index = deep.index_of(deep.ROUTE)
        self.assertGreater(index, 10 ** 18)
        self.check(deep.BIG, deep.BIG_OTHER, index, 1)
        for less, more, at in LEAVES:
            one = deep.spelled(deep.tower_with(deep.ROUTE, less))
            other = deep.spelled(deep.tower_with(deep.ROUTE, more))
            # A text that ends in the tower goes on with what follows it there.
            last = deep.ROUTE[-1:]
            sign = -1 if plain(deep.tower_with(last, less)) < plain(deep.tower_with(last, more)) else 1
            self.check(one, other, index + at, sign)

    def test_in_each_place(self):
        for route in [[0] * 45, [1] * 45, [2] * 45, [0] * 44 + [2], [2] * 44 + [0], [0, 1, 2] * 15, [2, 1, 0] * 15]:
            other = deep.spelled(deep.tower_with(route, ("void",)))
            self.check(deep.BIG, other, deep.index_of(route), -1)

    def test_the_first_one_of_several(self):
        one = deep.spelled(deep.tower_with([1] + deep.ROUTE, ("bool",)))
        other = deep.spelled(deep.tower_with([2] + deep.ROUTE, ("void",)))
        self.check(one, other, deep.index_of([1] + deep.ROUTE), -1)

    def test_behind_long_texts(self):
        size = length(deep.BIG)
        self.check("F" + deep.BIG + "Ei", "F" + deep.BIG + "Ev", 10 + size + 12, -1)
        self.check("N1aI" + deep.BIG + "E1bE", "N1aI" + deep.BIG + "E1cE", 4 + size + 3, -1)
        self.check("N1aI" + deep.BIG + "E1bE", "N1aI" + deep.BIG + "E2bbE", 4 + size + 4, -1)
        self.check("N1aI" + deep.BIG + "EE", "N1aI" + deep.BIG + "E2bbE", 4 + size + 1, -1)
        self.check("N1aI" + deep.BIG + "EE", "N1aI" + deep.BIG + "iEE", 4 + size, 1)
        self.check("N1aI" + deep.BIG + "E1b1c1dE", "N1aI" + deep.BIG + "E1b1xE", 4 + size + 6, -1)
        self.check("N1aI" + deep.BIG + "E5bbbbbE", "N1aI" + deep.BIG + "E1b1c1dIiEE", 4 + size + 4, 1)
        self.check("N1aI" + deep.BIG + "EE", deep.BIG, 0, -1)

    def test_paths_that_are_long_texts(self):
        for levels in (60, 90):
            one = deep.path_tower(levels, ("path", (("x", None),)))
            other = deep.path_tower(levels, ("path", (("y", None),)))
            self.check(deep.spelled(one), deep.spelled(other), 4 * levels + 2, -1)
            other = deep.path_tower(levels, ("path", (("x", None), ("x", None))))
            self.check(deep.spelled(one), deep.spelled(other), 4 * levels + 3, -1)


if __name__ == "__main__":
    unittest.main()
