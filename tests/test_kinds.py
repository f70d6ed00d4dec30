"""[3]: what is a kind and what is none."""

import enum
import unittest

from onesymbol.errors import NoKind
from onesymbol.kinds import plain
from onesymbol.reading import read
from onesymbol.writing import declaration_symbol, symbol
from tests.helpers import A, AB, INT, STRANGE, Rude

FUNCTION = ("function", (), INT)

GOOD = [
    ("int",), ("bool",), ("char",), ("real",), ("void",),
    ("parameter", 0), ("parameter", 1), ("parameter", 99), ("parameter", 10 ** 99),
    ("pointer", INT), ("reference", INT), ("const", INT), ("const", ("const", INT)), ("pointer", ("void",)),
    ("array", 1, INT), ("array", 10 ** 99, INT),
    FUNCTION, ("function", (INT,), INT), ("function", (INT, A, FUNCTION), ("void",)),
    A, AB,
    ("path", (("a", (INT,)),)), ("path", (("a", (0,)),)), ("path", (("a", (0, INT, A)), ("b", (10 ** 99,)))),
    ("path", (("_", None),)), ("path", (("a1", None),)), ("path", (("Z9_", None),)), ("path", (("__", None),)),
    ("path", (("a" * 30, None),)), ("path", (("int", None),)), ("path", (("_" + "9" * 29, None),)),
]

# No kinds, and no integers that might be arguments.
BAD_WORDS = [("Int",), ("",), ("strange",), ("int ",), ("i",), ("name", -1, "a"), ("integer", "3"), ("component",),
             ("kind", INT), ("row", INT), ("text", "i"), (None,), (1,), (True,), ([],), ({},), (b"int",), (Rude(),),
             ((),), (INT,), ("pointer to", INT), ("arguments", INT), ("wrap", INT), ("begin", INT),
             ("strange", INT), ("strange", 3), ("strange", 3, INT), ("strange", (), INT), ("strange", (("a", None),))]
BAD_SIZES = [("int", None), ("int", INT), ("void", ()), ("parameter",), ("parameter", 1, 1), ("pointer",),
             ("pointer", INT, INT), ("reference",), ("reference", INT, INT), ("const",), ("const", INT, INT),
             ("array",), ("array", 3), ("array", INT), ("array", 3, INT, INT), ("function",), ("function", ()),
             ("function", INT), ("function", (), INT, INT), ("path",), ("path", (("a", None),), None),
             ("path", 3, INT), ("path", (), INT), ("pointer", 3, INT), ("pointer", (), INT), ("parameter", 3, INT),
             ("function", 3, INT), ("array", (), INT), ("pointer", (("a", None),)), ("parameter", (("a", None),))]
BAD_NUMBERS = [("parameter", value) for value in [-1, True, False, 1.0, "1", None, [], INT, Rude(), -10 ** 99]]
BAD_NUMBERS += [("array", value, INT) for value in [0, -1, True, False, 1.0, "1", None, [], INT, Rude()]]
BAD_FORMS = [["int"], ["pointer", INT], ("pointer", ["int"]), ("pointer", "int"), ("pointer", None), ("pointer", 3),
             ("array", INT, 3), ("array", 3, 3), ("function", [INT], INT), ("function", INT, INT),
             ("function", None, INT), ("function", "", INT), ("function", (), ()), ("function", (3,), INT),
             ("function", (), 3), ("function", (INT, None), INT), ("function", {}, INT), ("function", ((),), INT)]
BAD_COMPONENTS = [(), [], [("a", None)], None, "a", ("a", None), ("a",), (("a",),), (("a", None, None),), ((),),
                  (["a", None],), (None,), ("ab",), (("a", None), ()), (("a", None), None), {"a": None}, 1, Rude(),
                  (("a", None), ["b", None])]
BAD_IDENTIFIERS = ["", "1", "1a", "9_", "a b", " a", "a ", "a-b", "a:", "::a", "a.b", "$", "a\n", "\n", "a\0",
                   "a" * 31, "_" * 31, "a" * 100, None, 1, True, b"a", ["a"], ("a",), {}, Rude(), "\u00e4", "a\u00e4",
                   "\u0661", "a\u0661", "a\u00b2"]
BAD_ARGUMENTS = [(), [], [INT], INT + INT, "i", "", 3, 0, False, True, {}, Rude(), (None,), (-1,), (True,), (False,),
                 (1.0,), ("int",), ("3",), (INT, None), (INT, ()), (3, [INT]), ([],), ({},), (Rude(),), (INT, -1)]
BAD = (BAD_WORDS + BAD_SIZES + BAD_NUMBERS + BAD_FORMS + STRANGE + ["int", "i", "", "pointer"]
       + [("path", components) for components in BAD_COMPONENTS]
       + [("path", ((identifier, None),)) for identifier in BAD_IDENTIFIERS]
       + [("path", (("a", None), (identifier, (INT,)))) for identifier in BAD_IDENTIFIERS]
       + [("path", (("a", arguments),)) for arguments in BAD_ARGUMENTS]
       + [("path", (("a", None), ("b", (INT,)), ("c", arguments), ("d", None))) for arguments in BAD_ARGUMENTS])


def around(kind):
    """Kinds in which the given one stands somewhere."""
    return [
        kind,
        ("pointer", kind), ("reference", kind), ("const", kind), ("array", 3, kind),
        ("function", (kind,), INT), ("function", (INT, kind, INT), INT), ("function", (), kind),
        ("path", (("a", (kind,)),)), ("path", (("a", (3, kind, INT)), ("b", None))),
        ("pointer", ("function", (INT, ("path", (("a", None), ("b", (INT, kind))))), ("const", INT))),
    ]


class GoodKinds(unittest.TestCase):

    def test_every_form_in_every_place(self):
        for good in GOOD:
            for kind in around(good):
                self.assertIsInstance(plain(kind), str)
                self.assertEqual(read(symbol(kind)), kind)

    def test_declarations_take_every_form(self):
        for good in GOOD:
            text = declaration_symbol(("path", (("a", (good,)),)), ("function", (good,), INT))
            self.assertTrue(text.startswith("QN1aI"))

    def test_arguments_by_name(self):
        self.assertEqual(plain(kind=INT), "int")
        self.assertEqual(symbol(kind=INT), "i")
        self.assertEqual(declaration_symbol(function=FUNCTION, path=A), "QN1aEFEi")

    def test_integers_as_arguments_are_no_kinds(self):
        self.assertEqual(symbol(("path", (("a", (3,)),))), "N1aIL3_EE")
        for function in (plain, symbol):
            for kind in around(3)[:8]:
                self.assertRaises(NoKind, function, kind)

    def test_objects_of_classes_under_the_builtin_ones(self):
        class Pair(tuple):
            pass

        class Number(int, enum.Enum):
            THREE = 3

        class Word(str, enum.Enum):
            INT = "int"
            POINTER = "pointer"
            A = "a"

        kind = Pair((Word.POINTER, ("path", Pair((Pair((Word.A, (Number.THREE, (Word.INT,)))),)))))
        self.assertEqual(plain(kind), "pointer to ::a<3, int>")
        self.assertEqual(symbol(kind), "PN1aIL3_iEE")


class NoKinds(unittest.TestCase):

    def refused(self, function, *arguments):
        with self.assertRaises(NoKind) as caught:
            function(*arguments)
        self.assertIs(caught.exception.__class__, NoKind)

    def test_plain(self):
        for bad in BAD:
            for kind in around(bad):
                self.refused(plain, kind)

    def test_symbol(self):
        for bad in BAD:
            for kind in around(bad):
                self.refused(symbol, kind)

    def test_declaration_symbol(self):
        for bad in BAD:
            for kind in around(bad):
                self.refused(declaration_symbol, kind, FUNCTION)
                self.refused(declaration_symbol, A, kind)

    def test_declaration_of_kinds_of_another_form(self):
        for good in GOOD:
            if good[0] != "path":
                self.refused(declaration_symbol, good, FUNCTION)
                self.refused(declaration_symbol, good, good)
            if good[0] != "function":
                self.refused(declaration_symbol, A, good)
                self.refused(declaration_symbol, good, good)
            self.refused(declaration_symbol, ("pointer", A), good)
            self.refused(declaration_symbol, None, good)
            self.refused(declaration_symbol, good, None)

    def test_at_depth(self):
        for bad in [[], (), ("int", 1), ("array", 0, INT), ("path", ()), Rude(), True]:
            kind = bad
            for _ in range(70):
                kind = ("pointer", kind)
            self.refused(plain, kind)
            self.refused(symbol, kind)

    def test_an_object_is_refused_after_good_ones(self):
        bad = ("path", (("a", (INT, 3, A)), ("b", (AB, ("array", 0, INT))), ("c", None)))
        self.refused(symbol, bad)
        self.refused(symbol, ("function", (A, AB, A, bad), A))


if __name__ == "__main__":
    unittest.main()
