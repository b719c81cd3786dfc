"""Fleets: workers that serve a service, request by request."""

from anyworker.errors import InvalidValues, NothingToUndo, WrongWorker
from anyworker.serving import at_first, check_kinds, check_request, check_worker, served_apart


class Fleet:
    """Workers that serve a service, and the one worker that serves the same requests beside them.

    A moment is a tuple (dict from workers to own values, common values, own and
    common values of the one worker, whether all was as the one worker had it).
    """

    def __init__(self, service):
        own, common = at_first(service)
        self._service = service
        self._fresh = own
        self._hand = 0
        self._bound = None
        self._deeds = []
        # One more than deeds, so that each deed can be taken back.
        self._moments = [({}, common, own, common, True)]

    def __call__(self, kind, argument=0, worker=None):
        return self._asked(kind, argument, worker)

    def __getitem__(self, at):
        check_worker(at)
        held, _, _, _, _ = self._moments[-1]
        return list(held.get(at, self._fresh))

    def __setitem__(self, at, worth):
        check_worker(at)
        own = tuple(worth)
        sizes = [size for _, size in self._service.own]
        if len(own) != len(sizes) or not all([0 <= n < size for n, size in zip(own, sizes)]):
            raise InvalidValues(list(own))
        self._give(("set", at, own), at, own)

    # Without this, Python would iterate by the indexes 0, 1 and so on.
    def __iter__(self):
        raise TypeError("a fleet is not iterated over")

    def __len__(self):
        return len(self.row())

    def __eq__(self, other):
        return (
            isinstance(other, Fleet)
            and self._service == other._service
            and self._bound == other._bound
            and self._deeds == other._deeds
        )

    @property
    def hand(self):
        """The worker in hand."""
        return self._hand

    @property
    def store(self):
        """The list of the common values."""
        _, store, _, _, _ = self._moments[-1]
        return list(store)

    @property
    def one(self):
        """The list of the own values of the one worker."""
        _, _, own, _, _ = self._moments[-1]
        return list(own)

    @property
    def is_true(self):
        """True if all answers, and the store behind each request, were those of the one worker."""
        _, _, _, _, right = self._moments[-1]
        return right

    def take(self, worker):
        """Puts a worker in hand and returns the one that was in hand."""
        check_worker(worker)
        before = self._hand
        self._hand = worker
        return before

    def serve_all(self, row):
        """Serves the requests of a row and returns the list of the answers, or raises and does nothing."""
        for kind, argument, worker in row:
            self._check(kind, argument, worker)
        return [self._served(kind, argument, worker) for kind, argument, worker in row]

    def end(self, worker):
        """Ends a worker: its own values are 0."""
        check_worker(worker)
        self._give(("end", worker), worker, self._fresh)

    def undo(self):
        """Takes back the last request, setting or end."""
        if len(self._deeds) == 0:
            raise NothingToUndo(0)
        self._deeds.pop()
        self._moments.pop()

    def row(self):
        """Returns the list of the requests that were served, as tuples (kind, argument, worker)."""
        return [deed[1:] for deed in self._deeds if deed[0] == "serve"]

    def _asked(self, kind, argument, worker):
        """Serves a request by a worker, or by the one in hand if it is None."""
        number = self._hand if worker is None else worker
        self._check(kind, argument, number)
        return self._served(kind, argument, number)

    def _check(self, kind, argument, worker):
        check_request(self._service, kind, argument)
        check_worker(worker)

    def _served(self, kind, argument, worker):
        """Serves a request that is good, and returns the answer."""
        held, store, own, alone, right = self._moments[-1]
        told, now, store = served_apart(self._service, kind, argument, held.get(worker, self._fresh), store)
        said, own, alone = served_apart(self._service, kind, argument, own, alone)
        right = right and told == said and store == alone
        self._deeds.append(("serve", kind, argument, worker))
        self._moments.append(({**held, worker: now}, store, own, alone, right))
        return told

    def _give(self, deed, worker, now):
        """Does a deed that gives a worker other own values."""
        held, store, own, alone, right = self._moments[-1]
        self._deeds.append(deed)
        self._moments.append(({**held, worker: now}, store, own, alone, right))


class BoundFleet(Fleet):
    """A fleet in which requests of some kinds are only served by worker 0."""

    def __init__(self, service, kinds):
        check_kinds(service, kinds)
        super().__init__(service)
        self._bound = [name for name, _ in service.kinds if name in kinds]

    def __call__(self, kind, argument=0, worker=None):
        return self._asked(kind, argument, worker)

    @property
    def bound(self):
        """The list of the names of these kinds, in the order of the kinds, each once."""
        return list(self._bound)

    def _check(self, kind, argument, worker):
        super()._check(kind, argument, worker)
        if worker != 0 and kind in self._bound:
            raise WrongWorker(worker)
