"""[2] and [8] over the whole program: arguments and errors, spellings that are not canonical, lists."""

import copy
import inspect
import itertools
import unittest

from onesymbol import changes, errors, parts, reading, table, texts, writing
from tests import deep
from tests.helpers import A, IDENTIFIERS, INT, STRANGE, at_of
from tests.test_canonical import OTHERS

BAD_TEXTS = {"": 0, "x": 0, "Pi ": 2, "PiE": 2, "N31a": 2, "N2a": 3, "Z1_": 0, "FPiZ13_Ei": 5, "NZ1_1aE": 1, "FN1aENZ1_EEi": 9,
             "FPi": 3, "QN1aEFEv": 0, "N1aIL1_": 7}


def book():
    found = table.Table()
    for spelling in ["QN1aEFiEv", "QN1aEFPq0_Ev", "QN1aEFPiEv", "QN1a1bEFq0_Ev"]:
        found.add(spelling)
    return found


# What the functions take: an argument that is good, and what is raised for one that is not.
SPELLING = ("N1a1bIFPiZ1_EvE1cE", errors.NoSpelling)
OTHER = ("Pi", errors.NoSpelling)
PATH = ("N1aE", errors.NoSpelling)
DECLARATION = ("QN1zIFEvEEZ2_", errors.NoSpelling)
IDENTIFIER = ("a", errors.NoIdentifier)
NAMES = (["a", "b"], errors.NoIdentifier)
INDEX = (5, errors.NoIndex)
SPELLINGS = (["Pi", "N1aE"], errors.NoArguments)

CALLS = [
    (parts.parts, {"spelling": SPELLING}),
    (parts.occurrences, {"spelling": SPELLING, "other": OTHER}),
    (parts.identifier_many, {"spelling": SPELLING, "identifier": IDENTIFIER}),
    (texts.length, {"spelling": SPELLING}),
    (texts.character, {"spelling": SPELLING, "index": INDEX}),
    (texts.section, {"spelling": SPELLING, "begin": INDEX, "end": INDEX}),
    (texts.first_difference, {"one": SPELLING, "other": OTHER}),
    (texts.order, {"one": SPELLING, "other": OTHER}),
    (changes.rename, {"spelling": SPELLING, "old": NAMES, "new": NAMES}),
    (changes.substitute, {"spelling": SPELLING, "arguments": SPELLINGS}),
    (changes.match, {"pattern": SPELLING, "spelling": OTHER}),
    (changes.unify, {"one": SPELLING, "other": OTHER}),
    (reading.canonical, {"spelling": SPELLING}),
    (reading.read, {"spelling": SPELLING}),
    (reading.read_declaration, {"spelling": DECLARATION}),
    (lambda spelling: book().add(spelling), {"spelling": DECLARATION}),
    (lambda path: book().members(path), {"path": NAMES}),
    (lambda path: book().functions(path), {"path": PATH}),
    (lambda path, arguments: book().resolve(path, arguments), {"path": PATH, "arguments": SPELLINGS}),
]


def raised(function, *arguments):
    """The class of the error that is raised, or None."""
    try:
        function(*arguments)
    except errors.SymbolError as error:
        return error.__class__
    return None


def is_good(thing, error):
    """Whether a strange object is good for some argument."""
    return isinstance(thing, list) and error in (errors.NoIdentifier, errors.NoArguments)


class ErrorsTest(unittest.TestCase):

    def test_good_arguments(self):
        for function, taken in CALLS:
            self.assertIsNone(raised(function, *[good for good, _ in taken.values()]))

    def test_strange_objects(self):
        for function, taken in CALLS:
            for place, (_, error) in enumerate(taken.values()):
                for thing in STRANGE:
                    if not is_good(thing, error):
                        arguments = [good for good, _ in taken.values()]
                        arguments[place] = thing
                        self.assertIs(raised(function, *arguments), error)

    def test_the_first_of_several_invalid_arguments(self):
        for function, taken in CALLS:
            for wrong in itertools.product([False, True], repeat=len(taken)):
                arguments = [None if bad else good for bad, (good, _) in zip(wrong, taken.values())]
                expected = [error for bad, (_, error) in zip(wrong, taken.values()) if bad]
                self.assertIs(raised(function, *arguments), expected[0] if expected else None)

    def test_at(self):
        for function, taken in CALLS:
            for place, (_, error) in enumerate(taken.values()):
                for text, at in BAD_TEXTS.items():
                    arguments = [good for good, _ in taken.values()]
                    if error is errors.NoSpelling and taken != {"spelling": DECLARATION}:
                        arguments[place] = text
                    elif error is errors.NoArguments:
                        arguments[place] = ["i", text, "Pz"]
                    else:
                        continue
                    self.assertEqual(at_of(lambda _: function(*arguments), None), at, text)

    def test_at_of_the_first_one(self):
        for function in (parts.occurrences, texts.first_difference, texts.order, changes.match, changes.unify):
            self.assertEqual(at_of(lambda _: function("PiE", "N31ab"), None), 2)
            self.assertEqual(at_of(lambda _: function("N2a", "x"), None), 3)
            self.assertEqual(at_of(lambda _: function("i", "PPx"), None), 2)
            self.assertEqual(at_of(lambda _: function([], "PPx"), None), 0)

    def test_the_order_of_other_errors(self):
        self.assertIs(raised(texts.section, "x", -1, -1), errors.NoSpelling)
        self.assertIs(raised(texts.character, "x", -1), errors.NoSpelling)
        self.assertIs(raised(parts.identifier_many, "x", "1"), errors.NoSpelling)
        self.assertIs(raised(parts.identifier_many, "i", "1"), errors.NoIdentifier)
        self.assertIs(raised(changes.rename, "x", [], []), errors.NoSpelling)
        self.assertIs(raised(changes.substitute, "x", None), errors.NoSpelling)
        self.assertIs(raised(changes.substitute, "i", None), errors.NoArguments)
        self.assertIs(raised(changes.substitute, "i", ["x"]), errors.NoSpelling)
        self.assertIs(raised(book().resolve, "Pi", None), errors.NoPath)
        self.assertIs(raised(book().resolve, "Px", None), errors.NoSpelling)
        self.assertIs(raised(book().resolve, "N1aE", ["q0_", "x"]), errors.NoSpelling)
        self.assertIs(raised(book().resolve, "N1aE", ["q0_"]), errors.NoArguments)
        self.assertIs(raised(writing.declaration_symbol, None, None), errors.NoKind)

    def test_what_is_no_identifier(self):
        for name in ["", "1", "1a", "a b", "a" * 31, "::a", "a<int>", "a-b", " a", "a\n", "a.b", "$", "\u00e4", "\u0661", "a\u00b2"]:
            self.assertIs(raised(parts.identifier_many, "N1aE", name), errors.NoIdentifier)
            self.assertIs(raised(changes.rename, "N1aE", ["a", name], ["b"]), errors.NoIdentifier)
            self.assertIs(raised(changes.rename, "N1aE", ["a"], [name]), errors.NoIdentifier)
            self.assertIs(raised(book().members, [name]), errors.NoIdentifier)
        for name in ["a", "_", "A1", "a" * 30, "_1", "int", "N1aE"]:
            self.assertIsNone(raised(parts.identifier_many, "N1aE", name))
            self.assertIsNone(raised(changes.rename, "N1aE", [name], [name, name]))
            self.assertIsNone(raised(book().members, [name]))

    def test_lists_of_identifiers(self):
        self.assertIsNone(raised(changes.rename, "N1aE", IDENTIFIERS, IDENTIFIERS))
        self.assertIs(raised(changes.rename, "N1aE", [], IDENTIFIERS), errors.NoIdentifier)
        self.assertIs(raised(changes.rename, "N1aE", IDENTIFIERS, []), errors.NoIdentifier)
        self.assertEqual(book().members([]), ["a"])


class NamesTest(unittest.TestCase):

    def test_arguments_by_name(self):
        for function, taken in CALLS:
            arguments = {name: good for name, (good, _) in taken.items()}
            self.assertEqual(function(**arguments), function(*arguments.values()))
            self.assertEqual(function(**dict(list(arguments.items())[::-1])), function(*arguments.values()))
            self.assertEqual(list(inspect.signature(function).parameters), list(taken))

    def test_methods_by_name(self):
        found = table.Table()
        found.add(spelling="QN1aEFiEv")
        self.assertEqual(found.declarations(), ["QN1aEFiEv"])
        self.assertEqual(found.members(path=[]), ["a"])
        self.assertEqual(found.functions(path="N1aE"), ["FiEv"])
        self.assertEqual(found.resolve(arguments=["i"], path="N1aE"), ("one", "FiEv", []))

    def test_each_method_stands_in_the_class_itself(self):
        for name, parameters in [("add", ["self", "spelling"]), ("declarations", ["self"]), ("members", ["self", "path"]),
                                 ("functions", ["self", "path"]), ("resolve", ["self", "path", "arguments"])]:
            self.assertEqual(list(inspect.signature(vars(table.Table)[name]).parameters), parameters)
        self.assertEqual(list(inspect.signature(table.Table).parameters), [])


class ListsTest(unittest.TestCase):

    def test_lists_that_are_returned_are_new(self):
        kept = book()
        calls = [
            lambda: parts.parts("N1a1bIiEE"), lambda: changes.match("Fq0_Eq1_", "FiEb"), kept.declarations,
            lambda: kept.members([]), lambda: kept.members(["a"]), lambda: kept.functions("N1aE"),
            lambda: kept.resolve("N1aE", ["Pb"])[2], lambda: kept.resolve("N1a1bE", ["Pb"])[2],
        ]
        before = [copy.copy(call()) for call in calls]
        for call in calls:
            for change in (lambda found: found.clear(), lambda found: found.append("x"), lambda found: found.reverse()):
                change(call())
        self.assertEqual([call() for call in calls], before)
        self.assertTrue(all(before))
        kept.add("QN1aEFiEi")
        found = kept.resolve("N1aE", ["i"])
        found[1].clear()
        self.assertEqual(kept.resolve("N1aE", ["i"]), ("several", ["FiEi", "FiEv"]))

    def test_lists_that_are_passed_stay_the_same(self):
        for function, taken in CALLS:
            arguments = [copy.copy(good) for good, _ in taken.values()]
            function(*arguments)
            self.assertEqual(arguments, [good for good, _ in taken.values()])

    def test_lists_that_are_passed_are_copied(self):
        kept, names = book(), ["a"]
        found = kept.members(names)
        names.append("b")
        self.assertEqual(kept.members(["a"]), found)

    def test_the_same_list_twice(self):
        names = ["a", "b"]
        self.assertEqual(changes.rename("N1a1b1cE", names, names), "N1a1b1cE")


class SpellingsTest(unittest.TestCase):
    """A spelling that is not canonical stands for its kind."""

    FUNCTIONS = [
        parts.parts, texts.length, lambda text: texts.section(text, 3, texts.length(text)),
        lambda text: [texts.character(text, index) for index in range(texts.length(text))],
        lambda text: parts.occurrences(text, "Pi"), lambda text: parts.occurrences("F" + text + "iEv", text),
        lambda text: parts.identifier_many(text, "a"), lambda text: changes.rename(text, ["a"], ["b", "c"]),
        lambda text: changes.substitute(text, ["i"]), lambda text: changes.substitute("FPq1_Eq0_", ["b", text]),
        lambda text: changes.match("q1_", text), lambda text: changes.match("Fq0_q0_Ev", "F" + text + text + "Ev"),
        lambda text: changes.match(text, text), lambda text: changes.unify("q0_", text), lambda text: changes.unify(text, "q0_"),
        lambda text: texts.order(text, "N1aE"), lambda text: texts.order("N1aE", text),
        lambda text: texts.first_difference(text, "FPiRiEv"), lambda text: texts.first_difference("FPiRiEv", text),
    ]

    def test_each_function(self):
        for spelling, others in OTHERS.items():
            for function in self.FUNCTIONS:
                found = function(spelling)
                for other in others:
                    self.assertEqual(function(other), found, other)

    def test_both_arguments(self):
        for spelling, others in OTHERS.items():
            for one, other in itertools.product([spelling] + others, repeat=2):
                self.assertEqual(parts.occurrences(one, other), 1)
                self.assertIsNone(texts.first_difference(one, other))
                self.assertEqual(texts.order(one, other), 0)
                self.assertEqual(changes.match(one, other), [])
                self.assertEqual(changes.unify(one, other), spelling)

    def test_tables(self):
        for spelling, others in OTHERS.items():
            for other in others:
                kept = table.Table()
                kept.add("QN1xI" + other + "EEF" + other + "Ev")
                for one in [spelling] + others:
                    self.assertRaises(errors.Twice, kept.add, "QN1xI" + one + "EEF" + one + "Ev")
                    self.assertEqual(kept.functions("N1xI" + one + "EE"), [reading.canonical("F" + one + "Ev")])
                    self.assertEqual(kept.resolve("N1xI" + one + "EE", [one]), ("one", reading.canonical("F" + one + "Ev"), []))
                path, function = reading.read("N1xI" + spelling + "EE"), reading.read("F" + spelling + "Ev")
                self.assertEqual(kept.declarations(), [writing.declaration_symbol(path, function)])

    def test_texts_of_any_length(self):
        again = "F" + deep.BIG + deep.BIG + "Ei"
        symbol = "F" + deep.BIG + "Z1_Ei"
        for function in [parts.parts, texts.length, lambda text: texts.section(text, 10 ** 20, 10 ** 20 + 1000),
                         lambda text: texts.character(text, 10 ** 20), lambda text: parts.occurrences(text, "i"),
                         lambda text: parts.identifier_many(text, "a"), lambda text: changes.rename(text, ["a"], ["b"]),
                         lambda text: changes.substitute(text, []), lambda text: changes.match("Fq0_q0_Eq1_", text),
                         lambda text: changes.unify("Fq0_q1_Eq2_", text), lambda text: texts.order(text, deep.BIG),
                         lambda text: texts.first_difference(text, "F" + deep.BIG_OTHER + "Z1_Ei")]:
            self.assertEqual(function(again), function(symbol))

    def test_kinds_are_no_spellings(self):
        for kind in [INT, A, ("function", (), INT)]:
            for function, taken in CALLS:
                if list(taken.values())[0][1] is errors.NoSpelling:
                    self.assertIs(raised(function, *([kind] * len(taken))), errors.NoSpelling)


if __name__ == "__main__":
    unittest.main()
