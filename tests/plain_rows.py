"""A second, plain telling of rows of several workers, over the shapes of services in `plain`.

A state of a search is (all cells of the one worker, common values, own values of each worker).
"""

import itertools

from tests import plain


def split(shape, cells):
    many = len(shape[0])
    return cells[:many], cells[many:]


def serve(shape, row, editions=None):
    """The tuples (answer, list of the common values) behind each request; editions[n] is what worker n runs."""
    fresh, common = split(shape, plain.start(shape))
    own, told = {}, []
    for kind, argument, worker in row:
        runs = (editions or {}).get(worker, shape)
        word, behind = plain.serve(runs, own.get(worker, fresh) + common, kind, argument)
        own[worker], common = split(shape, behind)
        told.append((word, list(common)))
    return told


def one_worker(shape, row):
    return serve(shape, [(kind, argument, 0) for kind, argument, _ in row])


def holds(shape, row, editions=None):
    return serve(shape, row, editions) == one_worker(shape, row)


class Search:
    """Goes through all rows by their length, and those of one length in order."""

    def __init__(self, shape, bound=(), edition=None, workers=3):
        self.shape = shape
        self.ways = [plain.ways_of(shape)] + [
            plain.ways_of(edition if edition and number % 2 else shape) for number in range(workers)]
        self.turns = [
            (at, request + (number,))
            for at, request in enumerate(plain.requests_of(shape))
            for number in range(workers)
            if number == 0 or request[0] not in bound
        ]
        fresh, common = split(shape, plain.start(shape))
        self.begin = (plain.start(shape), common, (fresh,) * workers)

    def behind(self, state, at, number):
        """The state behind a request, None if it is not served as by the one worker."""
        one, common, crew = state
        word, after = self.ways[0](one)[at]
        said, cells = self.ways[number + 1](crew[number] + common)[at]
        own, store = split(self.shape, cells)
        if word != said or store != split(self.shape, after)[1]:
            return None
        return after, store, crew[:number] + (own,) + crew[number + 1:]

    def first(self, longest=None):
        """The first row that does not hold.

        With longest, all rows to this length are gone through one by one; without it
        rows that come to a state once more are left out, and there is no limit.
        """
        seen = {self.begin}
        level = [(self.begin, [])]
        while level and longest != 0:
            below = []
            for state, row in level:
                for at, turn in self.turns:
                    after = self.behind(state, at, turn[2])
                    if after is None:
                        return row + [turn]
                    if longest is not None or after not in seen:
                        seen.add(after)
                        below.append((after, row + [turn]))
            level = below
            longest = None if longest is None else longest - 1
        return None

    def reached(self):
        """All states behind rows that hold in all parts."""
        seen = {self.begin}
        line = [self.begin]
        while line:
            state = line.pop()
            for at, turn in self.turns:
                after = self.behind(state, at, turn[2])
                if after is not None and after not in seen:
                    seen.add(after)
                    line.append(after)
        return seen


def closed(shape):
    """The closed table of a free service, by all states of three workers."""
    return sorted({
        (split(shape, one)[0], common, own)
        for one, common, crew in Search(shape).reached() for own in crew})


def missing(ways, state):
    """What comes of a state (all of the one worker, own values of a worker, missed requests).

    The states behind it, and whether the worker can go wrong at once.
    """
    one, own, missed = state
    many = len(own)
    behind, wrong = [], False
    for (word, after), (said, cells) in zip(ways(one), ways(own + one[many:])):
        behind.append((after, own, missed + 1))
        if word == said and after[many:] == cells[many:]:
            behind.append((after, cells[:many], missed))
        else:
            wrong = True
    return behind, wrong


def fewest_missed(shape, longest=None, most=12):
    """The least number of missed requests; with longest by all rows to this length, else by all states to most."""
    begin = (plain.start(shape), split(shape, plain.start(shape))[0], 0)
    found, level, seen, ways = [], [begin], {begin}, plain.ways_of(shape)
    while level and longest != 0:
        below = []
        for state in level:
            behind, wrong = missing(ways, state)
            if wrong:
                found.append(state[2])
            for after in behind:
                if longest is not None or (after not in seen and after[2] <= most):
                    seen.add(after)
                    below.append(after)
        level = below
        longest = None if longest is None else longest - 1
    return min(found, default=None)


def judge(shape, table):
    """Whether a table has the three properties of a set that shows that a service is free."""
    ways = plain.ways_of(shape)
    table = set(table)
    fresh, common = split(shape, plain.start(shape))
    if (fresh, common, fresh) not in table:
        return False
    for own, common, beside in table:
        if (own, common, fresh) not in table:
            return False
        for (word, after), (said, cells) in zip(ways(own + common), ways(beside + common)):
            now, store = split(shape, after)
            behind, left = split(shape, cells)
            if word != said or store != left:
                return False
            if (now, store, behind) not in table or (now, store, beside) not in table:
                return False
    return True


def sharing(shape, names):
    own, common, kinds = shape
    kept = [row for row in own if row[0] not in names]
    return kept, common + [row for row in own if row[0] in names], kinds


def sets(names):
    return [list(part) for many in range(len(names) + 1) for part in itertools.combinations(names, many)]


def least(good):
    return [one for one in good if not any(set(other) < set(one) for other in good)]


def free_sets(shape):
    names = [name for name, _ in shape[0]]
    return [part for part in sets(names) if Search(sharing(shape, part), workers=2).first() is None]


def breaking(shape):
    free = [set(part) for part in free_sets(shape)]
    own = [name for name, _ in shape[0]]
    return [
        (part, name) for part in sets(own) if set(part) in free
        for name in own if name not in part and set(part) | {name} not in free]


def least_bindings(shape):
    kinds = [name for name, _, _ in shape[2]]
    return least([part for part in sets(kinds) if Search(shape, bound=part, workers=3).first() is None])


def remember_shape(chance):
    """A shape of a service whose workers keep a copy of what is common, more or less well."""
    size = chance.choice([2, 2, 3])
    own, common = [("m", size), ("k", size)], [("c", size)]
    fresh = ("~", ("=", ("cell", "k"), ("cell", "c")))
    look = [("put", "m", ("cell", "c")), ("put", "k", ("cell", "c"))]
    if chance.random() < 0.5:
        # A number of the last change is kept beside the copy.
        common.append(("v", chance.choice([2, 2, 3])))
        fresh = ("~", ("=", ("cell", "k"), ("cell", "v")))
        look = [("put", "m", ("cell", "c")), ("put", "k", ("cell", "v"))]
    change = [("put", "c", ("passed",))]
    if len(common) > 1 and chance.random() < 0.8:
        change.append(("put", "v", ("+", ("cell", "v"), 1)))
    if chance.random() < 0.2:
        change.append(("put", chance.choice(["m", "k"]), ("passed",)))
    kinds = [("put", size, change), ("look", 1, [("when", fresh, look, []), ("answer", ("cell", "m"))])]
    if chance.random() < 0.3:
        own.insert(chance.randint(0, 2), ("n", 2))
        turn = [("put", "n", ("+", ("cell", "n"), 1)), ("answer", ("cell", "n"))]
        kinds.insert(chance.randint(0, 2), ("turn", 1, turn[:chance.choice([1, 2])]))
    if chance.random() < 0.3:
        kinds.append(("clear", 1, [("put", chance.choice(["m", "k", "c"]), 0)]))
    return own, common, kinds


def gap_shape(chance):
    """A shape of a service that does not mind a few missed requests, but minds more."""
    size = chance.choice([3, 4, 5, 6])
    limit = chance.randint(1, size - 1)
    gap = ("mod", ("-", ("cell", "c"), ("cell", "n")), size)
    ask = [("put", "c", ("+", ("cell", "c"), 1)),
           ("when", ("~", ("<", gap, limit + 1)), [("answer", 1)], [("put", "n", ("cell", "c"))])]
    kinds = [("ask", 1, ask + [("answer", 0)]), ("nop", 1, [])]
    if chance.random() < 0.5:
        kinds.insert(chance.randint(0, 2), ("reset", 2, [("put", "n", ("cell", "c")), ("answer", ("passed",))]))
    return [("n", size)], [("c", size)], kinds[:chance.choice([1, 2, 3, 3])]
