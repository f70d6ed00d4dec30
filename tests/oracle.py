"""A second, slow and simple program for the same document, with which the tests compare.

It works on the tuples of kinds and on whole tokens of spellings (a token such as
`Z12_` or `3abc` is compared with the text as one), and shares no code with onesymbol.
"""

import re

BUILTIN = {"i": "int", "b": "bool", "c": "char", "r": "real", "v": "void"}
WRAPPER = {"P": "pointer", "R": "reference", "K": "const"}
IDENTIFIER = re.compile("[A-Za-z_][A-Za-z0-9_]*")


def plain(kind):
    """The plain text of a kind [4]."""
    word = kind[0]
    if word == "parameter":
        return f"${kind[1]}"
    if word in WRAPPER.values():
        return f"{word}{'' if word == 'const' else ' to'} {plain(kind[1])}"
    if word == "array":
        return f"array of {kind[1]} {plain(kind[2])}"
    if word == "function":
        return f"function ({', '.join(map(plain, kind[1]))}) returning {plain(kind[2])}"
    if word == "path":
        return "".join(plain_component(*component) for component in kind[1])
    return word


def plain_component(identifier, arguments):
    if arguments is None:
        return f"::{identifier}"
    texts = [str(one) if isinstance(one, int) else plain(one) for one in arguments]
    return f"::{identifier}<{', '.join(texts)}>"


class Speller:
    """Writes a spelling of a kind; `choose` picks one of several ways to go on.

    The ways are back references to equal parts (the last ones first), and at the
    end the way without one. `canonical` below takes the one and only right way.
    """

    def __init__(self, choose):
        self.choose = choose
        self.parts = []

    def references(self, kind):
        many = len(self.parts)
        return [f"Z{d}_" for d in range(1, many + 1) if self.parts[many - d] == kind]

    def spell(self, kind):
        word = kind[0]
        if (word,) == kind:
            return word[0]
        if word == "parameter":
            return f"q{kind[1]}_"
        way = self.choose(self.references(kind) + [None])
        if way is not None:
            return way
        if word == "path":
            return self.spell_path(kind[1])
        if word == "function":
            text = "F" + "".join([self.spell(one) for one in kind[1]]) + "E" + self.spell(kind[2])
        elif word == "array":
            text = f"A{kind[1]}_" + self.spell(kind[2])
        else:
            text = {"pointer": "P", "reference": "R", "const": "K"}[word] + self.spell(kind[1])
        self.parts.append(kind)
        return text

    def prefixes(self, components):
        """The proper prefixes of a path, the longest first, each with what follows it."""
        found = []
        for many in range(len(components) - 1, -1, -1):
            identifier, arguments = components[many]
            if arguments is not None:
                bare = components[:many] + ((identifier, None),)
                found.append((bare, [(None, arguments)] + list(components[many + 1:])))
            if many:
                found.append((components[:many], list(components[many:])))
        return found

    def spell_path(self, components):
        ways = []
        for prefix, rest in self.prefixes(components):
            ways += [(way, prefix, rest) for way in self.references(("path", prefix))]
        way, prefix, rest = self.choose(ways + [("", (), list(components))])
        text = "N" + way
        for identifier, arguments in rest:
            if identifier is not None:
                text += f"{len(identifier)}{identifier}"
                prefix = prefix + ((identifier, None),)
                self.parts.append(("path", prefix))
            if arguments is not None:
                inner = [f"L{one}_" if isinstance(one, int) else self.spell(one) for one in arguments]
                text += "I" + "".join(inner) + "E"
                prefix = prefix[:-1] + ((prefix[-1][0], arguments),)
                self.parts.append(("path", prefix))
        return text + "E"


def first(ways):
    return ways[0]


def canonical(*kinds):
    """The symbol of a kind [6], or of several kinds with one numbering of parts."""
    speller = Speller(first)
    return "".join([speller.spell(kind) for kind in kinds])


class Begun(Exception):
    """The text ends, and it can be gone on with."""


class Wrong(Exception):
    """No spelling begins with the text."""


class Parser:
    """Reads a text token by token; raises Begun or Wrong, or returns a kind."""

    def __init__(self, text):
        self.text = text
        self.at = 0
        self.parts = []

    def starts(self, token):
        """Whether the token stands there; Begun if the text ends within it."""
        rest = self.text[self.at:self.at + len(token)]
        if rest == token:
            return True
        if token.startswith(rest) and self.at + len(rest) == len(self.text):
            raise Begun
        return False

    def one_of(self, tokens):
        """Read one of the tokens. (The text may end within one and hold another one as a whole.)"""
        begun = not tokens
        for token in tokens:
            try:
                if self.starts(token):
                    self.at += len(token)
                    return token
            except Begun:
                begun = True
        if begun and tokens:
            raise Begun
        raise Wrong

    def integer(self, pattern):
        found = re.compile(pattern).match(self.text, self.at)
        if found is None:
            if self.at == len(self.text):
                raise Begun
            raise Wrong
        self.at = found.end()
        self.one_of(["_"])
        return int(found.group())

    def peek(self, letter):
        if self.at == len(self.text):
            raise Begun
        return self.text[self.at] == letter

    def reference(self, word):
        """Read a back reference to a part with this word, if one stands there."""
        many = len(self.parts)
        tokens = [d for d in range(1, many + 1) if word in ("", self.parts[many - d][0])]
        if not self.peek("Z") or not tokens:
            return None
        return self.parts[many - int(self.one_of([f"Z{d}_" for d in tokens])[1:-1])]

    def completed(self, kind):
        self.parts.append(kind)
        return kind

    def kind(self):
        known = self.reference("")
        if known is not None:
            return known
        letter = self.one_of(list("ibcrvqPRKAFN"))
        if letter in BUILTIN:
            return (BUILTIN[letter],)
        if letter == "q":
            return ("parameter", self.integer("0|[1-9][0-9]*"))
        if letter in WRAPPER:
            return self.completed((WRAPPER[letter], self.kind()))
        if letter == "A":
            many = self.integer("[1-9][0-9]*")
            return self.completed(("array", many, self.kind()))
        if letter == "F":
            parameters = []
            while not self.peek("E"):
                parameters.append(self.kind())
            self.at += 1
            return self.completed(("function", tuple(parameters), self.kind()))
        return self.path()

    def identifier(self):
        for length in range(30, 0, -1):
            head = str(length)
            if self.text.startswith(head, self.at):
                name = self.text[self.at + len(head):self.at + len(head) + length]
                if name == "" or (IDENTIFIER.fullmatch(name) and len(name) < length):
                    if self.at + len(head) + len(name) == len(self.text):
                        raise Begun
                elif IDENTIFIER.fullmatch(name):
                    self.at += len(head) + length
                    return name
        if self.at == len(self.text):
            raise Begun
        raise Wrong

    def path(self):
        known = self.reference("path")
        components = () if known is None else known[1]
        grown = False
        while not grown or not self.peek("E"):
            if components and components[-1][1] is None and self.peek("I"):
                self.at += 1
                components = components[:-1] + ((components[-1][0], self.arguments()),)
            else:
                components = components + ((self.identifier(), None),)
            self.completed(("path", components))
            grown = True
        self.at += 1
        return ("path", components)

    def arguments(self):
        found = []
        while not found or not self.peek("E"):
            if self.peek("L"):
                self.at += 1
                found.append(self.integer("0|[1-9][0-9]*"))
            else:
                found.append(self.kind())
        self.at += 1
        return tuple(found)

    def declaration(self):
        self.one_of(["Q"])
        if not self.peek("N"):
            raise Wrong
        path = self.kind()
        function = self.reference("function")
        if function is None:
            if not self.peek("F"):
                raise Wrong
            function = self.kind()
        return path, function


def begins(text, declaration=False):
    """Whether a spelling begins with the text."""
    parser = Parser(text)
    try:
        parser.declaration() if declaration else parser.kind()
    except Begun:
        return True
    except Wrong:
        return False
    return parser.at == len(text)


def parsed(text, declaration=False):
    """The kind (or path and function) of a spelling, or None, and `at`."""
    parser = Parser(text)
    try:
        found = parser.declaration() if declaration else parser.kind()
        if parser.at == len(text):
            return found, None
    except (Begun, Wrong):
        pass
    for at in range(len(text)):
        if not begins(text[:at + 1], declaration):
            return None, at
    return None, len(text)


def random_kind(random, depth, names="abc"):
    """A random kind, with few names, so that parts come again."""
    word = random.choice(["leaf", "wrap", "wrap", "array", "function", "path", "path"]) if depth else "leaf"
    if word == "leaf":
        return random.choice([("int",), ("bool",), ("char",), ("real",), ("void",), ("parameter", random.randrange(12))])
    if word == "wrap":
        return (random.choice(["pointer", "reference", "const"]), random_kind(random, depth - 1, names))
    if word == "array":
        return (word, random.randrange(1, 12), random_kind(random, depth - 1, names))
    if word == "function":
        many = random.randrange(4)
        return (word, tuple(random_kind(random, depth - 1, names) for _ in range(many)),
                random_kind(random, depth - 1, names))
    return ("path", tuple(random_component(random, depth - 1, names) for _ in range(random.randrange(1, 4))))


def random_component(random, depth, names):
    identifier = random.choice(names) * random.choice([1, 1, 1, 2])
    if random.randrange(3):
        return (identifier, None)
    arguments = [random.randrange(20) if random.randrange(4) == 0 else random_kind(random, depth, names)
                 for _ in range(random.randrange(1, 3))]
    return (identifier, tuple(arguments))
