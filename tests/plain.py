"""A second, plain telling of values, steps and services, to compare the program with.

A shape of a value is an integer, ("cell", name), ("passed",), ("~", shape) or
(sign, shape, shape); of a step ("put", name, value), ("answer", value) or
("when", value, steps, others); of a service (own, common, kinds) as `Service`
takes them, but with shapes of steps.
"""

from anyworker.services import Service
from anyworker.values import answer, cell, passed, put, when

SIGNS = ["+", "-", "*", "//", "mod", "=", "<", "&", "|"]


def build_value(shape):
    if isinstance(shape, int):
        return shape
    sign, parts = shape[0], [part if shape[0] == "cell" else build_value(part) for part in shape[1:]]
    makers = {
        "cell": cell,
        "passed": passed,
        "~": lambda one: ~one,
        "+": lambda one, other: one + other,
        "-": lambda one, other: one - other,
        "*": lambda one, other: one * other,
        "//": lambda one, other: one // other,
        "mod": lambda one, other: one.rest(other),
        "=": lambda one, other: one.same(other),
        "<": lambda one, other: one.less(other),
        "&": lambda one, other: one & other,
        "|": lambda one, other: one | other,
    }
    return makers[sign](*parts)


def build_step(shape):
    if shape[0] == "put":
        return put(shape[1], build_value(shape[2]))
    if shape[0] == "answer":
        return answer(build_value(shape[1]))
    return when(build_value(shape[1]), build_steps(shape[2]), build_steps(shape[3]))


def build_steps(shapes):
    return [build_step(shape) for shape in shapes]


def build(shape):
    own, common, kinds = shape
    return Service(own, common, [(name, many, build_steps(steps)) for name, many, steps in kinds])


def worth(shape, held, argument):
    if isinstance(shape, int):
        return shape
    if shape[0] == "cell":
        return held[shape[1]]
    if shape[0] == "passed":
        return argument
    parts = [worth(part, held, argument) for part in shape[1:]]
    meanings = {
        "~": lambda one: int(not one),
        "+": lambda one, other: one + other,
        "-": lambda one, other: one - other,
        "*": lambda one, other: one * other,
        "//": lambda one, other: (one - one % other) // other,
        "mod": lambda one, other: one - other * (one // other),
        "=": lambda one, other: int(one == other),
        "<": lambda one, other: int(one < other),
        "&": lambda one, other: int(bool(one) and bool(other)),
        "|": lambda one, other: int(bool(one) or bool(other)),
    }
    return meanings[shape[0]](*parts)


class Answered(Exception):
    pass


def do(steps, held, sizes, argument):
    """Does steps by changing held; raises Answered at an answer."""
    for step in steps:
        if step[0] == "put":
            held[step[1]] = worth(step[2], held, argument) % sizes[step[1]]
        elif step[0] == "answer":
            raise Answered(worth(step[1], held, argument))
        else:
            do(step[2] if worth(step[1], held, argument) != 0 else step[3], held, sizes, argument)


def serve(shape, state, kind, argument):
    """The answer, and the state (own and common values as a tuple) behind it."""
    own, common, kinds = shape
    cells = own + common
    held = {name: now for (name, _), now in zip(cells, state)}
    steps = [steps for name, _, steps in kinds if name == kind][0]
    told = None
    try:
        do(steps, held, dict(cells), argument)
    except Answered as e:
        told = e.args[0]
    return told, tuple(held[name] for name, _ in cells)


def start(shape):
    return (0,) * len(shape[0] + shape[1])


def requests_of(shape):
    return [(name, argument) for name, many, _ in shape[2] for argument in range(many)]


def run(shape, requests):
    state, answers = start(shape), []
    for kind, argument in requests:
        told, state = serve(shape, state, kind, argument)
        answers.append(told)
    return answers


def ways_of(shape):
    """A function from states to lists of (answer, next state), one for each request."""
    known = {}

    def ways(state):
        if state not in known:
            known[state] = [serve(shape, state, *request) for request in requests_of(shape)]
        return known[state]

    return ways


def first_unlike(one, other):
    """A search through all pairs of states, the pairs as they are reached first."""
    ways, again = ways_of(one), ways_of(other)
    requests = requests_of(one)
    begin = (start(one), start(other))
    came = {begin: None}
    line = [begin]
    for pair in line:
        for at, (first, second) in enumerate(zip(ways(pair[0]), again(pair[1]))):
            if first[0] != second[0]:
                return told_way(came, pair, requests) + [requests[at]]
            after = (first[1], second[1])
            if after not in came:
                came[after] = (pair, at)
                line.append(after)
    return None


def told_way(came, pair, requests):
    path = []
    while came[pair] is not None:
        pair, at = came[pair]
        path.insert(0, requests[at])
    return path


def reached(shape):
    ways = ways_of(shape)
    states = [start(shape)]
    for state in states:
        for _, after in ways(state):
            if after not in states:
                states.append(after)
    return states, ways


def machine(shape):
    """The least machine, by marking all pairs of states that some list parts."""
    states, ways = reached(shape)
    pairs = [(one, other) for one in states for other in states]
    apart = {(a, b) for a, b in pairs if any(x[0] != y[0] for x, y in zip(ways(a), ways(b)))}
    while True:
        more = {
            (a, b) for a, b in pairs
            if (a, b) not in apart and any((x[1], y[1]) in apart for x, y in zip(ways(a), ways(b)))
        }
        if not more:
            break
        apart |= more

    def first_alike(state, among):
        return [at for at, other in enumerate(among) if (state, other) not in apart]

    chosen = [states[0]]
    told = []
    for state in chosen:
        row = []
        for word, after in ways(state):
            if not first_alike(after, chosen):
                chosen.append(after)
            row.append((word, first_alike(after, chosen)[0]))
        told.append(row)
    return told


def forgetting(shape, names):
    own, common, kinds = shape
    ahead = [("put", name, 0) for name, _ in own if name in names]
    return own, common, [(name, many, ahead + steps) for name, many, steps in kinds]


def forgettable(shape):
    own = [name for name, _ in shape[0]]
    masks = range(2 ** len(own))
    good = [
        mask for mask in masks
        if first_unlike(shape, forgetting(shape, [own[k] for k in range(len(own)) if mask >> k & 1])) is None
    ]
    greatest = [mask for mask in good if not any(mask != other and mask & other == mask for other in good)]
    sets = [[k for k in range(len(own)) if mask >> k & 1] for mask in greatest]
    return [[own[k] for k in places] for places in sorted(sets, key=lambda places: (len(places), places))]


def value_shape(chance, names, signs):
    """A shape of a value with this many signs."""
    if signs == 0:
        cells = [("cell", chance.choice(names))] * 6 if names else []
        return chance.choice(cells + [("passed",), ("passed",), chance.randint(-3, 5)])
    sign = chance.choice(SIGNS + ["+", "+", "-", "=", "~"])
    if sign == "~":
        return (sign, part_shape(chance, names, signs - 1))
    if sign in ["//", "mod"]:
        return (sign, part_shape(chance, names, signs - 1), chance.randint(1, 4))
    left = chance.randint(0, signs - 1)
    return (sign, part_shape(chance, names, left), value_shape(chance, names, signs - 1 - left))


def part_shape(chance, names, signs):
    """A shape of a value that is no integer."""
    shape = value_shape(chance, names, signs)
    return ("passed",) if isinstance(shape, int) else shape


def steps_shape(chance, names, many, signs, deep):
    """Shapes of at most so many steps, those within others counted."""
    steps = []
    while many > 0:
        word = chance.choice(["put"] * 8 + ["when"] * 5 + ["answer"])
        value = value_shape(chance, names, chance.randint(0, signs))
        many -= 1
        if word == "when" and deep > 1:
            inner = chance.randint(0, many)
            some = steps_shape(chance, names, chance.randint(0, inner), signs, deep - 1)
            others = steps_shape(chance, names, inner - count(some), signs, deep - 1)
            steps.append(("when", value, some, others))
            many -= inner
        elif word == "answer" or not names:
            steps.append(("answer", value))
        else:
            steps.append(("put", chance.choice(names), value))
    return steps


def count(steps):
    return sum(1 + (count(step[2]) + count(step[3]) if step[0] == "when" else 0) for step in steps)


def service_shape(chance, own, common, numbers, many=6, signs=3):
    """A shape of a service with cells of these sizes and kinds of these numbers of arguments."""
    own = [("abcd"[at], size) for at, size in enumerate(own)]
    common = [("mnopqrstuv"[at], size) for at, size in enumerate(common)]
    names = [name for name, _ in own + common]
    return own, common, [
        ("kind" + "abcde"[at], number, kind_steps(chance, names, chance.randint(1, many), signs))
        for at, number in enumerate(numbers)
    ]


def kind_steps(chance, names, many, signs):
    """Shapes of steps of which most turn the cells about and end with an answer."""
    if not names or chance.random() < 0.15:
        return steps_shape(chance, names, many, signs, 3)
    turns = []
    for _ in range(chance.randint(1, 2)):
        by = chance.choice([1, 1, ("passed",), ("cell", chance.choice(names))])
        turn = ("put", chance.choice(names), ("+", ("cell", chance.choice(names)), by))
        if chance.random() < 0.4:
            turn = ("when", ("<", ("cell", chance.choice(names)), chance.randint(1, 2)), [turn], [])
        turns.append(turn)
    spare = max(0, many - 1 - 2 * len(turns))
    steps = turns + [step for step in steps_shape(chance, names, spare, signs, 3) if step[0] != "answer"]
    if chance.random() < 0.7:
        steps.append(("answer", ("cell", chance.choice(names))))
    return steps


def changed(chance, shape):
    """The shape with the steps of one kind made anew."""
    own, common, kinds = shape
    names = [name for name, _ in own + common]
    at = chance.randrange(len(kinds)) if kinds else 0
    return own, common, [
        (name, many, kind_steps(chance, names, 5, 3) if place == at else steps)
        for place, (name, many, steps) in enumerate(kinds)]


def memo_shape(chance):
    """A shape of a service whose cells of two values tell much the same."""
    own = [(name, 2) for name in "dbca"[:chance.randint(2, 4)]]
    common = [("m", 2)][:chance.randint(0, 1)]
    names = [name for name, _ in own + common]

    def copies(many):
        steps = []
        for _ in range(many):
            one, other = chance.choice(names), chance.choice(names)
            copy = [("put", one, chance.choice([1, 1, ("cell", other)]))]
            steps.append(chance.choice([copy[0], ("when", ("cell", other), copy, []), ("when", ("cell", other), copy, [])]))
        return steps

    told = [("put", name, chance.choice([1, ("passed",)])) for name in names if chance.random() < 0.9]
    get = copies(chance.randint(1, 6)) + [("answer", ("cell", chance.choice(names)))]
    return own, common, [("set", 2, told), ("get", 1, get)]
