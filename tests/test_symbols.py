"""[5] and [6]: spellings, and the symbol of a kind."""

import copy
import unittest

from onesymbol.reading import is_symbol, read
from onesymbol.writing import symbol
from tests.helpers import A, AB, INT
from tests.test_plain import TEXTS


def function(*kinds):
    return ("function", kinds[:-1], kinds[-1])


def path(*components):
    return ("path", tuple(one if isinstance(one, tuple) else (one, None) for one in components))


P = ("pointer", INT)

SYMBOLS = [
    # Each form.
    (("int",), "i"), (("bool",), "b"), (("char",), "c"), (("real",), "r"), (("void",), "v"),
    (("parameter", 0), "q0_"), (("parameter", 12), "q12_"),
    (P, "Pi"), (("reference", INT), "Ri"), (("const", INT), "Ki"), (("array", 1, INT), "A1_i"),
    (("array", 100, ("array", 10, INT)), "A100_A10_i"),
    (function(INT), "FEi"), (function(INT, ("bool",), ("void",)), "FibEv"),
    (A, "N1aE"), (AB, "N1a1bE"), (path("a" * 30), "N30" + "a" * 30 + "E"), (path("a" * 9, "b" * 10), "N9aaaaaaaaa10bbbbbbbbbbE"),
    (path(("a", (INT,))), "N1aIiEE"), (path(("a", (0, 15)), "b"), "N1aIL0_L15_E1bE"),
    (path("a", ("b", (3, INT, 4))), "N1a1bIL3_iL4_EE"), (path("E"), "N1EE"), (path("I", "L1_"), "N1I3L1_E"),
    # Builtin kinds, parameters and integers are no parts.
    (function(INT, INT, INT), "FiiEi"), (function(("parameter", 3), ("parameter", 3)), "Fq3_Eq3_"),
    (path(("a", (7, 7, 7))), "N1aIL7_L7_L7_EE"),
    # A part that comes again, at several distances.
    (function(P, P, ("void",)), "FPiZ1_Ev"), (function(P, P, P, P), "FPiZ1_Z1_EZ1_"),
    (function(P, ("reference", INT), P, P), "FPiRiZ2_EZ2_"),
    (function(P, ("pointer", P), ("reference", P), P, INT), "FPiPZ1_RZ2_Z3_Ei"),
    (("const", ("const", INT)), "KKi"), (function(("const", INT), ("const", ("const", INT)), INT), "FKiKZ1_Ei"),
    (function(("array", 2, INT), ("array", 3, INT), ("array", 2, INT), INT), "FA2_iA3_iZ2_Ei"),
    (function(function(INT), function(INT)), "FFEiEZ1_"),
    (function(function(P), ("pointer", function(P)), P), "FFEPiPZ1_EZ3_"),
    # Prefixes of paths.
    (function(AB, A, AB), "FN1a1bEZ2_EZ1_"), (function(A, AB, INT), "FN1aENZ1_1bEEi"),
    (function(("pointer", A), ("pointer", A), AB), "FPN1aEZ1_ENZ2_1bE"),
    (function(AB, path("a", "c"), path("a", "b", "c"), INT), "FN1a1bENZ2_1cENZ2_1cEEi"),
    (function(path("a", "b", "c"), path("a", "b", "d", "e"), AB), "FN1a1b1cENZ2_1d1eEEZ4_"),
    # A prefix with and without arguments.
    (function(path(("a", (INT,))), A, INT), "FN1aIiEEZ2_Ei"), (function(A, path(("a", (INT,))), INT), "FN1aENZ1_IiEEEi"),
    (function(path(("a", (INT,)), "b"), path(("a", (INT,)), "c"), INT), "FN1aIiE1bENZ2_1cEEi"),
    (function(path(("a", (INT,)), "b"), path("a", "b"), INT), "FN1aIiE1bENZ3_1bEEi"),
    (function(path(("a", (INT,))), path(("a", (("bool",),))), INT), "FN1aIiEENZ2_IbEEEi"),
    (function(path(("a", (INT,)), "b"), path(("a", (INT,))), INT), "FN1aIiE1bEZ2_Ei"),
    # A prefix that stands again in the arguments of its own path.
    (path(("a", (A,)), "c"), "N1aIZ1_E1cE"), (path(("a", (AB,)), "b"), "N1aINZ1_1bEE1bE"),
    (path("a", ("b", (A, AB))), "N1a1bIZ2_Z1_EE"), (path("a", ("b", (AB,)), ("c", (path("a", ("b", (AB,))), A))),
                                                  "N1a1bIZ1_E1cIZ2_Z4_EE"),
    (path(("a", (path(("a", (A,))),))), "N1aINZ1_IZ1_EEEE"), (path(("a", (P, P))), "N1aIPiZ1_EE"),
    # A path that is begun within another one is numbered where it is completed.
    (path(("a", (path("b", "c"),)), "d"), "N1aIN1b1cEE1dE"),
    (function(path(("a", (path("b", "c"),)), "d"), path("b"), path("b", "c"), path("a"), path(("a", (path("b", "c"),))),
              INT), "FN1aIN1b1cEE1dEZ4_Z3_Z5_Z2_Ei"),
]


class SymbolTest(unittest.TestCase):

    def test_symbols(self):
        for kind, text in SYMBOLS:
            self.assertEqual(symbol(kind), text)

    def test_read_back(self):
        for kind, text in SYMBOLS:
            self.assertEqual(read(text), kind)
            self.assertTrue(is_symbol(text), text)

    def test_kinds_made_anew_have_equal_symbols(self):
        for kind, text in SYMBOLS:
            self.assertEqual(symbol(copy.deepcopy(read(symbol(kind)))), text)

    def test_unlike_kinds_have_unlike_symbols(self):
        kinds = {kind for kind, _ in SYMBOLS} | {kind for kind, _ in TEXTS}
        self.assertEqual(len({symbol(kind) for kind in kinds}), len(kinds))

    def test_the_letters_of_an_identifier_do_not_matter(self):
        for name in ["E", "I", "Z1_", "N1aE", "L1_", "_", "__init__", "Pi", "a1", "int"]:
            kind = path(name, (name, (path(name), 1)), name)
            self.assertEqual(symbol(kind), f"N{len(name)}{name}{len(name)}{name}IZ2_L1_E{len(name)}{name}E")
            self.assertEqual(read(symbol(kind)), kind)

    def test_distances_of_two_and_three_digits(self):
        names = [f"n{index}" for index in range(150)]
        kind = function(*[path(name) for name in names], *[path(name) for name in names], INT)
        text = "F" + "".join([f"N{len(name)}{name}E" for name in names]) + "".join(
            [f"Z{distance}_" for distance in range(150, 0, -1)]) + "Ei"
        self.assertEqual(symbol(kind), text)
        self.assertEqual(read(text), kind)

    def test_values_are_of_the_plain_classes(self):
        kind = read("N1aIL3_q4_A5_iE1bE")
        self.assertEqual(kind, path(("a", (3, ("parameter", 4), ("array", 5, INT))), "b"))
        self.assertIs(type(kind[1][0][1][0]), int)
        self.assertIs(type(kind[1][0][1][1][1]), int)
        self.assertIs(type(kind[1][0][1][2][1]), int)
        self.assertIs(type(kind[1]), tuple)


if __name__ == "__main__":
    unittest.main()
