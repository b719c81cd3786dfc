"""Values, which requests ask for, and steps, which requests do."""

from anyworker.errors import InvalidDivisor, UnknownName
from anyworker.names import check_name


def cell(name):
    """Returns the value that a cell holds."""
    check_name(name)
    return Value("cell", (name,), (name,))


def passed():
    """Returns the argument of the request."""
    return Value("passed", (), ())


def number(n):
    """Returns an integer as a value."""
    return Value("number", (n,), ())


class Value:
    """A value, which never changes.

    Its sign tells how it is built: "cell" of a name, "number" of an integer,
    "passed" of nothing, "~" of a value, any other sign of two values.
    """

    def __init__(self, sign, parts, names):
        self.sign = sign
        self.parts = parts
        self._names = names

    def __eq__(self, other):
        return isinstance(other, Value) and self.sign == other.sign and self.parts == other.parts

    def __add__(self, other):
        return joined("+", self, other)

    def __radd__(self, other):
        return joined("+", other, self)

    def __sub__(self, other):
        return joined("-", self, other)

    def __rsub__(self, other):
        return joined("-", other, self)

    def __mul__(self, other):
        return joined("*", self, other)

    def __rmul__(self, other):
        return joined("*", other, self)

    def __floordiv__(self, other):
        _check_divisor(other)
        return joined("//", self, other)

    def __and__(self, other):
        return joined("&", self, other)

    def __rand__(self, other):
        return joined("&", other, self)

    def __or__(self, other):
        return joined("|", self, other)

    def __ror__(self, other):
        return joined("|", other, self)

    def __invert__(self):
        return Value("~", (self,), self._names)

    def rest(self, n):
        """Returns what division by an integer leaves, from 0 to n - 1."""
        _check_divisor(n)
        return joined("mod", self, n)

    def same(self, other):
        """Returns the value that is 1 if both are equal, otherwise 0."""
        return joined("=", self, other)

    def less(self, other):
        """Returns the value that is 1 if this one is less than the other one, otherwise 0."""
        return joined("<", self, other)

    @property
    def names(self):
        """The ascending list of the names of cells in it, each once."""
        return list(self._names)

    def at(self, held, argument):
        """Returns the integer, for what the cells hold and the argument of a request."""
        for name in self._names:
            if name not in held:
                raise UnknownName(name)
        return worth(self, held, argument)


def _check_divisor(n):
    if n < 1:
        raise InvalidDivisor(n)


def joined(sign, one, other):
    """Returns a value built of two, of which one may be an integer."""
    parts = (_as_value(one), _as_value(other))
    return Value(sign, parts, names_in(parts))


def _as_value(given):
    return given if isinstance(given, Value) else number(given)


def names_in(things):
    """Returns the ascending tuple of the names of cells in values and steps, each once."""
    return tuple(sorted({name for thing in things for name in thing.names}))


def worth(value, held, argument):
    """Returns the integer of a value all of whose cells are held."""
    sign, parts = value.sign, value.parts
    if sign == "cell":
        return held[parts[0]]
    if sign == "number":
        return parts[0]
    if sign == "passed":
        return argument
    first = worth(parts[0], held, argument)
    if sign == "~":
        return 1 if first == 0 else 0
    return _worked_out(sign, first, worth(parts[1], held, argument))


def _worked_out(sign, first, second):
    """Returns the integer that a sign makes of two."""
    if sign == "+":
        return first + second
    if sign == "-":
        return first - second
    if sign == "*":
        return first * second
    if sign == "//":
        return first // second
    if sign == "mod":
        return first % second
    return 1 if _is_true(sign, first, second) else 0


def _is_true(sign, first, second):
    """Tells whether what a sign says of two integers is true."""
    if sign == "=":
        return first == second
    if sign == "<":
        return first < second
    if sign == "&":
        return first != 0 and second != 0
    return first != 0 or second != 0


class Step:
    """A step, which never changes.

    Its sign tells what it does: "put" with a name and a value, "when" with
    a value and two tuples of steps, "answer" with a value.
    """

    def __init__(self, sign, parts, names):
        self.sign = sign
        self.parts = parts
        self._names = names

    def __eq__(self, other):
        return isinstance(other, Step) and self.sign == other.sign and self.parts == other.parts

    @property
    def names(self):
        """The ascending list of the names of cells in it, each once."""
        return list(self._names)


def put(name, value):
    """Returns the step that puts a value into a cell."""
    target, told = cell(name), _as_value(value)
    return Step("put", (name, told), names_in([target, told]))


def when(value, steps, others=()):
    """Returns the step that does steps if the value is not 0, others if it is 0."""
    asked, some, rest = _as_value(value), tuple(steps), tuple(others)
    return Step("when", (asked, some, rest), names_in([asked, *some, *rest]))


def answer(value):
    """Returns the step that answers a value."""
    told = _as_value(value)
    return Step("answer", (told,), names_in([told]))
