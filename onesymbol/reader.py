"""Reads spellings character by character [5] and enters their kinds in a table of rows.

The reader takes a character only if some spelling begins with all that it has
taken and this character. So where it stops is the field `at` of NoSpelling [7].

Nothing here calls itself: the kinds that are begun stand in a list of frames,
so that no depth of nesting exceeds the depth of calls that Python allows.
"""

from onesymbol.errors import NoArguments, NoSpelling
from onesymbol.letters import BUILTIN_WORDS, DIGITS, DIGITS_ABOVE_ZERO, IDENTIFIER_BEGIN
from onesymbol.letters import IDENTIFIER_LETTERS, KIND_LETTERS, LONGEST_IDENTIFIER, WRAPPER_WORDS
from onesymbol.rows import NO_PREFIX, PATH_WORDS


def number_of_spelling(rows, spelling):
    """Enter the kind of a spelling in the rows and return its number; raises NoSpelling."""
    reader = Reader(rows, spelling)
    number = reader.kind()
    reader.end()
    return number


def numbers_of_list(rows, spellings):
    """Enter the kinds of a list of spellings and return their numbers; raises NoArguments, then NoSpelling."""
    if not isinstance(spellings, list):
        raise NoArguments("the arguments are a list of spellings")
    return [number_of_spelling(rows, spelling) for spelling in spellings]


def numbers_of_declaration(rows, spelling):
    """Return the numbers of the path and the function of a declaration; raises NoSpelling."""
    reader = Reader(rows, spelling)
    reader.take("Q")
    reader.expect("N")
    path = reader.kind()
    if reader.refers(reader.function_totals):
        function = reader.reference(reader.function_totals)
    else:
        reader.expect("F")
        function = reader.kind()
    reader.end()
    return path, function


def counts_between(totals, low, high):
    """Return whether the totals count a part at a distance from `low`, which some part has, to `high`."""
    many = len(totals) - 1
    return totals[many - low + 1] > totals[many - min(high, many)]


def counts_begun(totals, number):
    """Return whether the totals count a part whose distance begins with these digits."""
    low = high = number
    while 0 < low < len(totals):
        if counts_between(totals, low, high):
            return True
        low = low * 10
        high = high * 10 + 9
    return False


class Frame:
    """A kind that is begun and not yet ended.

    `begin` is the beginning of its row, and `kinds` are the numbers that the row
    still needs. `inside` says whether the parameters of a function or the arguments
    of a component are being read. `path` is the number of the prefix that is read
    so far, and `grown` says whether the path may end with it.
    """

    def __init__(self, begin, path):
        self.begin = begin
        self.kinds = []
        self.inside = begin[0] == "function"
        self.path = path
        self.grown = False


class Reader:
    """Reads one spelling.

    `parts` are the numbers of the rows of the parts in the order in which they
    were completed. The totals say which of them a back reference may stand for,
    wherever a kind may stand (all), behind an N (paths) and for the function of
    a declaration (functions): item n counts those among the first n parts.
    """

    def __init__(self, rows, spelling):
        if not isinstance(spelling, str):
            raise NoSpelling("a spelling is a string", 0)
        self.rows = rows
        self.text = spelling
        self.at = 0
        self.parts = []
        self.all_totals = [0]
        self.path_totals = [0]
        self.function_totals = [0]

    def sees(self, letters):
        """Return whether one of these letters comes next."""
        return self.at < len(self.text) and self.text[self.at] in letters

    def expect(self, letters):
        """Raise NoSpelling if none of these letters comes next."""
        if not self.sees(letters):
            raise NoSpelling("no spelling goes on like this", self.at)

    def take(self, letters):
        """Read one of these letters."""
        self.expect(letters)
        self.at += 1
        return self.text[self.at - 1]

    def end(self):
        """Raise NoSpelling if the spelling is not read to its end."""
        if self.at < len(self.text):
            raise NoSpelling("a character stands behind the end", self.at)

    def complete(self, row):
        """Enter the row of a part that is completed, and return its number."""
        number = self.rows.number(row)
        self.parts.append(number)
        self.all_totals.append(len(self.parts))
        self.path_totals.append(self.path_totals[-1] + (1 if row[0] in PATH_WORDS else 0))
        self.function_totals.append(self.function_totals[-1] + (1 if row[0] == "function" else 0))
        return number

    def integer(self, first_digits):
        """Read an integer and the underscore behind it; return its digits."""
        begin = self.at
        if self.take(first_digits) != "0":
            while self.sees(DIGITS):
                self.at += 1
        self.take("_")
        return self.text[begin:self.at - 1]

    def refers(self, totals):
        """Return whether a back reference comes next that may stand there."""
        return totals[-1] > 0 and self.sees("Z")

    def reference(self, totals):
        """Read a back reference to a part that the totals count; return its number."""
        self.take("Z")
        distance = int(self.digit(totals, 0))
        while not (self.sees("_") and counts_between(totals, distance, distance)):
            distance = distance * 10 + int(self.digit(totals, distance))
        self.take("_")
        return self.parts[-distance]

    def digit(self, totals, distance):
        """Read a digit of a back reference, behind those of `distance`."""
        return self.take([digit for digit in DIGITS if counts_begun(totals, distance * 10 + int(digit))])

    def identifier(self):
        """Read the length of an identifier, and the identifier."""
        length = int(self.take(DIGITS_ABOVE_ZERO))
        if self.sees(DIGITS) and length * 10 + int(self.text[self.at]) <= LONGEST_IDENTIFIER:
            length = length * 10 + int(self.take(DIGITS))
        begin = self.at
        self.take(IDENTIFIER_BEGIN)
        while self.at < begin + length:
            self.take(IDENTIFIER_LETTERS)
        return self.text[begin:self.at]

    def kind(self):
        """Read a kind and return its number."""
        frames = []
        done = self.begin_kind(frames)
        while frames:
            if done is not None:
                frames[-1].kinds.append(done)
            done = self.go_on(frames[-1])
            if done is None:
                done = self.begin_kind(frames)
            else:
                frames.pop()
        return done

    def begin_kind(self, frames):
        """Read the beginning of a kind; return its number, or None if it got a frame."""
        if self.refers(self.all_totals):
            return self.reference(self.all_totals)
        letter = self.take(KIND_LETTERS)
        if letter in BUILTIN_WORDS:
            return self.rows.number((BUILTIN_WORDS[letter],))
        if letter == "q":
            return self.rows.number(("parameter", self.integer(DIGITS)))
        if letter == "A":
            frames.append(Frame(("array", self.integer(DIGITS_ABOVE_ZERO)), NO_PREFIX))
        elif letter == "F":
            frames.append(Frame(("function",), NO_PREFIX))
        elif letter == "N":
            frames.append(Frame(("path",), self.begin_path()))
        else:
            frames.append(Frame((WRAPPER_WORDS[letter],), NO_PREFIX))
        return None

    def begin_path(self):
        """Return the number of the prefix with which a path begins behind its N."""
        return self.reference(self.path_totals) if self.refers(self.path_totals) else NO_PREFIX

    def go_on(self, frame):
        """Read on in a frame; return its number at its end, or None where a kind must follow."""
        if frame.begin[0] == "function":
            return self.go_on_function(frame)
        if frame.begin[0] == "path":
            return self.go_on_path(frame)
        if not frame.kinds:
            return None
        return self.complete(frame.begin + (frame.kinds[0],))

    def go_on_function(self, frame):
        """Read on in a function: inside are its parameters, outside is its result."""
        if not frame.inside:
            return self.complete(("function", tuple(frame.kinds[:-1]), frame.kinds[-1]))
        if self.sees("E"):
            self.at += 1
            frame.inside = False
        return None

    def go_on_path(self, frame):
        """Read on in a path: inside are the arguments of a component."""
        while not (frame.grown and not frame.inside and self.sees("E")):
            if frame.inside:
                if not self.end_arguments(frame):
                    return None
            elif self.takes_arguments(frame.path) and self.sees("I"):
                self.at += 1
                frame.inside = True
            else:
                frame.path = self.complete(("name", frame.path, self.identifier()))
                frame.grown = True
        self.at += 1
        return frame.path

    def takes_arguments(self, path):
        """Return whether the last component of a path has no arguments yet."""
        return path != NO_PREFIX and self.rows.row(path)[0] == "name"

    def end_arguments(self, frame):
        """Read integers, and the end of the arguments; return whether it was there."""
        while self.sees("L"):
            self.at += 1
            frame.kinds.append(self.rows.number(("integer", self.integer(DIGITS))))
        if not frame.kinds or not self.sees("E"):
            return False
        self.at += 1
        frame.path = self.complete(("arguments", frame.path, tuple(frame.kinds)))
        frame.kinds = []
        frame.inside = False
        frame.grown = True
        return True
