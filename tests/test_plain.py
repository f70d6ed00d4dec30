"""[4]: plain texts."""

import unittest

from onesymbol.kinds import plain
from tests.helpers import A, AB, INT

TEXTS = [
    (("int",), "int"), (("bool",), "bool"), (("char",), "char"), (("real",), "real"), (("void",), "void"),
    (("parameter", 0), "$0"), (("parameter", 17), "$17"), (("parameter", 10 ** 30), "$1" + "0" * 30),
    (("pointer", INT), "pointer to int"), (("reference", INT), "reference to int"), (("const", INT), "const int"),
    (("const", ("const", ("pointer", ("const", ("char",))))), "const const pointer to const char"),
    (("array", 1, INT), "array of 1 int"), (("array", 10, ("array", 20, INT)), "array of 10 array of 20 int"),
    (("function", (), ("void",)), "function () returning void"),
    (("function", (INT,), ("void",)), "function (int) returning void"),
    (("function", (INT, ("pointer", INT), ("bool",)), INT), "function (int, pointer to int, bool) returning int"),
    (("function", (("function", (), INT),), ("function", (INT,), A)),
     "function (function () returning int) returning function (int) returning ::a"),
    (("pointer", ("function", (), INT)), "pointer to function () returning int"),
    (A, "::a"), (AB, "::a::b"), (("path", (("std", None), ("Long_name1", None), ("_", None))), "::std::Long_name1::_"),
    (("path", (("a", (INT,)),)), "::a<int>"), (("path", (("a", (3,)),)), "::a<3>"),
    (("path", (("a", (0,)), ("b", (INT, 12, AB)), ("c", None))), "::a<0>::b<int, 12, ::a::b>::c"),
    (("path", (("a", (("path", (("a", (("path", (("b", (1, 2)),)),)),)), A)),)), "::a<::a<::b<1, 2>>, ::a>"),
    (("path", (("a", (("function", (INT, INT), INT), ("parameter", 3))),)),
     "::a<function (int, int) returning int, $3>"),
    (("pointer", ("path", (("std", None), ("vec", (("int",), 3))))), "pointer to ::std::vec<int, 3>"),
    (("array", 3, ("reference", AB)), "array of 3 reference to ::a::b"),
]


class PlainTest(unittest.TestCase):

    def test_texts(self):
        for kind, text in TEXTS:
            self.assertEqual(plain(kind), text)

    def test_inside_each_other(self):
        for kind, text in TEXTS:
            self.assertEqual(plain(("pointer", kind)), "pointer to " + text)
            self.assertEqual(plain(("function", (kind, INT), kind)), f"function ({text}, int) returning {text}")
            self.assertEqual(plain(("path", (("x", (7, kind)), ("y", None)))), f"::x<7, {text}>::y")

    def test_different_kinds_have_different_texts(self):
        texts = [plain(kind) for kind, _ in TEXTS]
        self.assertEqual(len(set(texts)), len(texts))


if __name__ == "__main__":
    unittest.main()
