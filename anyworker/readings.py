"""Values, steps and services read from their texts."""

from anyworker.errors import DoubleName, InvalidSize, UnknownName, Unreadable
from anyworker.names import LETTERS, LONGEST
from anyworker.services import Service
from anyworker.values import answer, cell, joined, number, passed, put, when

DIGITS = "0123456789"
SIGNS = ("+", "-", "*", "//", "&", "|", "mod", "=", "<")
MOST_SIGNS = 12
DEEPEST = 6
LONGEST_NUMBER = 20
LONGEST_SIZE = 3


class Reader:
    """A text, and how far it is read."""

    def __init__(self, text):
        self._text = text
        self._at = 0
        self._signs = 0

    def refuse(self):
        """Raises the error that the text is none."""
        raise Unreadable(self._text)

    def is_done(self):
        """Tells whether all of the text is read."""
        return self._at == len(self._text)

    def is_at(self, signs):
        """Tells whether the text goes on with one of some signs."""
        return not self.is_done() and self._text[self._at] in signs

    def skip(self, word):
        """Reads a word if the text goes on with it; tells whether it did."""
        found = self._text.startswith(word, self._at)
        if found:
            self._at = self._at + len(word)
        return found

    def need(self, word):
        """Reads a word with which the text has to go on."""
        if not self.skip(word):
            self.refuse()

    def choose(self, words):
        """Reads and returns the one of some words with which the text has to go on."""
        for word in words:
            if self.skip(word):
                return word
        raise Unreadable(self._text)

    def run_of(self, signs, most):
        """Reads a run of some signs, as long as it goes: at least one of them, and not more than most."""
        begin = self._at
        while self.is_at(signs):
            self._at = self._at + 1
        if not 1 <= self._at - begin <= most:
            self.refuse()
        return self._text[begin:self._at]

    def begin_value(self):
        """Begins to count the signs of a value."""
        self._signs = 0

    def count_sign(self):
        """Counts one more sign of a value; a text with too many is refused before it is read deeper."""
        self._signs = self._signs + 1
        if self._signs > MOST_SIGNS:
            self.refuse()


def read_value(text):
    """Returns the value with a text."""
    reader = Reader(text)
    value = _value(reader)
    _check_done(reader)
    return value


def read_steps(text):
    """Returns the list of steps with a text."""
    reader = Reader(text)
    steps = [] if reader.is_done() else _steps(reader, 1)
    _check_done(reader)
    return steps


def read_service(text):
    """Returns the service with a text."""
    reader = Reader(text)
    reader.need("own")
    own = _cells(reader)
    reader.need("; common")
    common = _cells(reader)
    kinds = []
    while reader.skip("; kind "):
        name, many = _sized(reader)
        reader.need(" ")
        kinds.append((name, many, _in_braces(reader, 1)))
    _check_done(reader)
    try:
        return Service(own, common, kinds)
    except (InvalidSize, DoubleName, UnknownName):
        raise Unreadable(text) from None


def _check_done(reader):
    if not reader.is_done():
        reader.refuse()


def _cells(reader):
    cells = []
    while reader.skip(" "):
        cells.append(_sized(reader))
    return cells


def _sized(reader):
    """Reads a name, a colon and a size, and returns the tuple of name and size."""
    name = _name(reader)
    reader.need(":")
    return name, _whole(reader, LONGEST_SIZE)


def _name(reader):
    return reader.run_of(LETTERS, LONGEST)


def _whole(reader, most):
    """Reads an integer of at most so many digits that is not negative."""
    digits = reader.run_of(DIGITS, most)
    if digits[0] == "0" and digits != "0":
        reader.refuse()
    return int(digits)


def _integer(reader):
    if not reader.skip("-"):
        return _whole(reader, LONGEST_NUMBER)
    n = _whole(reader, LONGEST_NUMBER)
    if n == 0:
        reader.refuse()
    return -n


def _value(reader):
    reader.begin_value()
    return _part(reader)


def _part(reader):
    if reader.skip("?"):
        return passed()
    if reader.skip("~"):
        reader.count_sign()
        return ~_part(reader)
    if reader.skip("("):
        reader.count_sign()
        return _behind_bracket(reader)
    if reader.is_at(LETTERS):
        return cell(_name(reader))
    return number(_integer(reader))


def _behind_bracket(reader):
    """Reads two values, the sign between them, and the closing bracket."""
    first = _part(reader)
    reader.need(" ")
    sign = reader.choose(SIGNS)
    reader.need(" ")
    second = _part(reader)
    reader.need(")")
    if sign in ("//", "mod") and not _is_divisor(second):
        reader.refuse()
    return joined(sign, first, second)


def _is_divisor(value):
    return value.sign == "number" and value.parts[0] >= 1


def _steps(reader, deep):
    """Reads at least one step."""
    steps = [_step(reader, deep)]
    while reader.skip("; "):
        steps.append(_step(reader, deep))
    return steps


def _step(reader, deep):
    if deep > DEEPEST:
        reader.refuse()
    if reader.skip("put "):
        name = _name(reader)
        reader.need(" ")
        return put(name, _value(reader))
    if reader.skip("answer "):
        return answer(_value(reader))
    reader.need("when ")
    value = _value(reader)
    reader.need(" ")
    steps = _in_braces(reader, deep + 1)
    reader.need(" else ")
    return when(value, steps, _in_braces(reader, deep + 1))


def _in_braces(reader, deep):
    """Reads steps between braces, perhaps none."""
    reader.need("{")
    if reader.skip("}"):
        return []
    steps = _steps(reader, deep)
    reader.need("}")
    return steps
