"""The one worker of a service and one worker beside it, and where this one goes wrong.

A place is a tuple (own values of the one worker, common values, own values of the
worker beside it). One worker is enough to look at: as long as a row holds, it makes
no difference to this worker who serves the other requests.
"""


class Side:
    """What a worker makes of the cells that it has for itself, and of those that all have."""

    def __init__(self, course, own):
        places = range(len(course.cells))
        self._course = course
        self._own = [place for place in places if course.cells[place] in own]
        self._common = [place for place in places if course.cells[place] not in own]
        # The states are put together and taken apart for each worker that is looked at.
        self._known = {}

    def first_place(self):
        """Returns the place at which all begin."""
        _, own, common = self._apart(None, self._course.start)
        return own, common, own

    def ways(self, own, common):
        """Returns a list that has for each request the tuple (answer, own, common values behind it)."""
        if (own, common) not in self._known:
            ways = self._course.ways(self._together(own, common))
            self._known[(own, common)] = [self._apart(told, state) for told, state in ways]
        return self._known[(own, common)]

    def _together(self, own, common):
        held = dict(zip(self._own + self._common, own + common))
        return tuple([held[place] for place in range(len(held))])

    def _apart(self, told, state):
        own = tuple([state[place] for place in self._own])
        return told, own, tuple([state[place] for place in self._common])


def moves(one, other, place):
    """Returns a list that has for each request a tuple of two places behind it.

    The first one is where the worker serves, None if it is wrong then, the second
    one where others serve. One and other are the sides of the two workers.
    """
    own, common, beside = place
    found = []
    for (told, after, store), (said, behind, left) in zip(one.ways(own, common), other.ways(beside, common)):
        right = told == said and store == left
        found.append(((after, store, behind) if right else None, (after, store, beside)))
    return found


def first_wrong(one, other, numbers, bound):
    """Returns the first row in which the worker is wrong, None if there is none.

    Numbers are those of the worker and of all others. Of the requests with an index
    in bound, all are served by worker 0. A row is told by tuples (index of the
    request, number of who serves).
    """
    start = one.first_place()
    seen = {start}
    level = [(start, [])]
    while level:
        below = []
        for place, path in level:
            for at, number, after in _turns(moves(one, other, place), numbers, bound):
                if after is None:
                    return path + [(at, number)]
                if after not in seen:
                    seen.add(after)
                    below.append((after, path + [(at, number)]))
        level = below
    return None


def _turns(came, numbers, bound):
    """Returns the list of tuples (index of the request, number, place behind it), in order."""
    worker, _ = numbers
    return [
        (at, number, mine if number == worker else theirs)
        for at, (mine, theirs) in enumerate(came)
        for number in sorted(numbers)
        if number == 0 or at not in bound
    ]


def all_places(side):
    """Returns the ascending list of the places that come about if no worker is ever wrong."""
    start = side.first_place()
    seen = {start}
    left = [start]
    while left:
        place = left.pop()
        for pair in moves(side, side, place):
            for after in pair:
                if after not in seen:
                    seen.add(after)
                    left.append(after)
    return sorted(seen)


def least_missed(side):
    """Returns with how few requests served by others the worker goes wrong, None if it never does."""
    start = side.first_place()
    seen = {start}
    level = [start]
    missed = 0
    while level:
        missing = []
        # What the worker serves itself costs nothing: all this comes ahead of the next miss.
        while level:
            place = level.pop()
            for mine, theirs in moves(side, side, place):
                if mine is None:
                    return missed
                if mine not in seen:
                    seen.add(mine)
                    level.append(mine)
                missing.append(theirs)
        for behind in missing:
            if behind not in seen:
                seen.add(behind)
                level.append(behind)
        missed = missed + 1
    return None
