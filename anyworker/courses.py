"""Where the one worker of a service goes from state to state, and where two of them part."""

from anyworker.serving import requests_of, served


class Course:
    """The answers and the next states of the one worker.

    A state is the tuple of what the cells hold, own ones first.
    """

    def __init__(self, service):
        self._service = service
        self.cells = [name for name, _ in service.own + service.common]
        self._requests = requests_of(service)
        # Serving is slow, and the same states are asked for again and again.
        self._known = {}
        self.start = tuple([0 for _ in self.cells])

    def ways(self, state):
        """Returns a list that has for each request the tuple (answer, state behind it)."""
        if state not in self._known:
            self._known[state] = [self._way(state, kind, argument) for kind, argument in self._requests]
        return self._known[state]

    def _way(self, state, kind, argument):
        told, now = served(self._service, kind, argument, dict(zip(self.cells, state)))
        return told, tuple([now[name] for name in self.cells])

    def forgotten(self, state, names):
        """Returns a state, but with 0 in the cells of these names."""
        return tuple([0 if name in names else held for name, held in zip(self.cells, state)])


class Likeness:
    """Which states of two workers are taken to be alike, also by way of others."""

    def __init__(self):
        self._next = {}

    def news(self, one, other):
        """Takes a state of each worker to be alike; returns False if they were so already."""
        first, second = self._last((0, one)), self._last((1, other))
        if first != second:
            self._next[first] = second
        return first != second

    def _last(self, place):
        """Returns the place that stands for all that are alike to this one."""
        while place in self._next:
            beyond = self._next[place]
            # Each search shortens the way, so that later ones stay quick.
            self._next[place] = self._next.get(beyond, beyond)
            place = beyond
        return place


def first_parting(one, other, start):
    """Returns the indexes of the first requests whose last answers are unlike, or None.

    One and other are functions that tell the ways from a state, as `Course.ways`;
    both workers begin with their starts.
    """
    likeness = Likeness()
    likeness.news(*start)
    level = [(start, [])]
    while level:
        below = []
        for (state, twin), path in level:
            for at, ((told, after), (said, behind)) in enumerate(zip(one(state), other(twin))):
                if told != said:
                    return path + [at]
                # Who parts two states that are alike by way of others also parts two
                # of those, and they were reached sooner: these two need no look.
                if likeness.news(after, behind):
                    below.append(((after, behind), path + [at]))
        level = below
    return None
