"""[8]: canonical spellings."""

import unittest

from onesymbol.errors import NoSpelling
from onesymbol.reading import canonical, is_symbol, read
from onesymbol.writing import symbol
from tests.helpers import STRANGE, at_of
from tests.test_symbols import SYMBOLS

# For each symbol other spellings of its kind.
OTHERS = {
    "FPiZ1_Ev": ["FPiPiEv"],
    "FPiZ1_Z1_EZ1_": ["FPiPiPiEPi", "FPiZ1_PiEZ1_", "FPiPiZ2_EZ2_", "FPiPiZ1_EZ2_", "FPiPiPiEZ3_", "FPiPiPiEZ2_"],
    "FPiRiZ2_EZ1_": ["FPiRiPiERi", "FPiRiPiEZ2_", "FPiRiZ2_ERi"],
    "FPiPZ1_EZ2_": ["FPiPPiEPi", "FPiPPiEZ2_", "FPiPPiEZ3_", "FPiPZ1_EPi"],
    "FN1a1bEZ2_EZ1_": ["FN1a1bEN1aEEN1a1bE", "FN1a1bEN1aEENZ1_1bE", "FN1a1bEN1aEENZ3_1bE", "FN1a1bEN1aEEZ2_",
                       "FN1a1bEZ2_EN1a1bE", "FN1a1bEZ2_ENZ2_1bE"],
    "FN1a1bENZ1_1cEEi": ["FN1a1bEN1a1b1cEEi", "FN1a1bENZ2_1b1cEEi"],
    "FN1aENZ1_IiEEEi": ["FN1aEN1aIiEEEi"],
    "FN1aIiE1bENZ2_1cEEi": ["FN1aIiE1bEN1aIiE1cEEi", "FN1aIiE1bENZ3_IiE1cEEi"],
    "N1aIZ1_E1cE": ["N1aIN1aEE1cE"],
    "N1aINZ1_IZ1_EEEE": ["N1aIN1aIN1aEEEEE", "N1aIN1aIZ1_EEEE", "N1aIN1aIZ2_EEEE", "N1aINZ1_IN1aEEEEE"],
    "FFEiEZ1_": ["FFEiEFEi"],
    "FA2_iZ1_EZ1_": ["FA2_iA2_iEA2_i", "FA2_iZ1_EA2_i"],
    "FKKiZ1_EZ2_": ["FKKiKKiEKi", "FKKiKZ2_EKi", "FKKiKZ2_EZ3_", "FKKiKKiEZ2_"],
}


class CanonicalTest(unittest.TestCase):

    def test_symbols_stay(self):
        for text in [text for _, text in SYMBOLS] + list(OTHERS):
            self.assertEqual(canonical(text), text)
            self.assertIs(is_symbol(text), True)

    def test_other_spellings(self):
        for text, others in OTHERS.items():
            for other in others:
                self.assertEqual(read(other), read(text), other)
                self.assertEqual(canonical(other), text, other)
                self.assertIs(is_symbol(other), False, other)
                self.assertEqual(symbol(read(other)), text, other)

    def test_no_spellings(self):
        for text in STRANGE + ["", "x", "Pi ", " Pi", "PiE", "FPiZ2_Ev", "N31a", "QN1aEFEv", "F"]:
            self.assertIs(is_symbol(text), False)
            self.assertRaises(NoSpelling, canonical, text)
            self.assertEqual(at_of(canonical, text), at_of(read, text))
        self.assertEqual(at_of(canonical, "FPiPiE"), 6)
        self.assertEqual(at_of(canonical, "FPiPiEZ3_"), 7)

    def test_texts_of_any_length(self):
        for many in (20, 43, 50):
            text = "F" * many + "Pi" + "Z1_EZ1_" * many
            self.assertEqual(canonical(text), text)
            self.assertIs(is_symbol(text), True)
            # The innermost Pi once more, and what comes behind it one part further away.
            other = "F" * many + "PiPiEZ1_" + "Z1_EZ1_" * (many - 1)
            self.assertEqual(canonical(other), text)
            self.assertIs(is_symbol(other), False)

    def test_parts_of_any_length_written_again(self):
        inner = "F" * 40 + "Pi" + "Z1_EZ1_" * 40
        for twice in ["F" + inner + inner + "Ev", "F" + inner + "Z1_Ev"]:
            self.assertEqual(canonical(twice), "F" + inner + "Z1_Ev")
        self.assertEqual(canonical("N1aI" + inner + inner + "E1bE"), "N1aI" + inner + "Z1_E1bE")


if __name__ == "__main__":
    unittest.main()
