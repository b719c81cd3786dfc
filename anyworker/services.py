"""Services: cells, and kinds of requests with their steps."""

from anyworker.errors import DoubleName, InvalidSize, UnknownKind, UnknownName, UnlikeCells
from anyworker.names import check_name
from anyworker.values import names_in, put


class Service:
    """A service, which never changes."""

    def __init__(self, own, common, kinds):
        cells = list(own) + list(common)
        _check_cells(cells)
        _check_kinds(kinds, [name for name, _ in cells])
        self._own = tuple([(name, size) for name, size in own])
        self._common = tuple([(name, size) for name, size in common])
        self._kinds = tuple([(name, many, tuple(steps)) for name, many, steps in kinds])

    def __eq__(self, other):
        return (
            isinstance(other, Service)
            and self._own == other._own
            and self._common == other._common
            and self._kinds == other._kinds
        )

    def __len__(self):
        return len(self._kinds)

    def __getitem__(self, at):
        for name, _, steps in self._kinds:
            if name == at:
                return list(steps)
        raise UnknownKind(at)

    # Without this, Python would iterate by the indexes 0, 1 and so on.
    def __iter__(self):
        raise TypeError("a service is not iterated over")

    def __or__(self, other):
        _check_alike(other.own, self.own, self.common)
        _check_alike(other.common, self.common, self.own)
        own = self.own + [row for row in other.own if row not in self.own]
        common = self.common + [row for row in other.common if row not in self.common]
        # The new service itself refuses the first kind that both have.
        return Service(own, common, whole_kinds(self) + whole_kinds(other))

    @property
    def own(self):
        """The list of the own cells, as tuples (name, size)."""
        return list(self._own)

    @property
    def common(self):
        """The list of the common cells, as tuples (name, size)."""
        return list(self._common)

    @property
    def kinds(self):
        """The list of the kinds, as tuples (name, number of arguments)."""
        return [(name, many) for name, many, _ in self._kinds]


def _check_cells(cells):
    for at, (name, size) in enumerate(cells):
        _check_new(name, size, cells[:at])


def _check_kinds(kinds, cells):
    for at, (name, many, steps) in enumerate(kinds):
        _check_new(name, many, kinds[:at])
        for asked in names_in(steps):
            if asked not in cells:
                raise UnknownName(asked)


def _check_new(name, size, before):
    """Checks a cell or a kind; those before it are tuples that begin with their names."""
    check_name(name)
    if size < 1:
        raise InvalidSize(size)
    if name in [row[0] for row in before]:
        raise DoubleName(name)


def _check_alike(cells, alike, unlike):
    """Checks that cells are among the alike ones, or have none of the names."""
    known = [name for name, _ in alike + unlike]
    for name, size in cells:
        if name in known and (name, size) not in alike:
            raise UnlikeCells(name)


def whole_kinds(service):
    """Returns the kinds of a service with their steps, as `Service` takes them."""
    return [(name, many, service[name]) for name, many in service.kinds]


def sharing(service, names):
    """Returns the service in which some own cells are common ones, behind the common ones."""
    _check_own(service, names)
    kept = [(name, size) for name, size in service.own if name not in names]
    moved = [(name, size) for name, size in service.own if name in names]
    return Service(kept, service.common + moved, whole_kinds(service))


def forgetting(service, names):
    """Returns the service each of whose kinds begins by putting 0 into some own cells."""
    _check_own(service, names)
    ahead = [put(name, 0) for name, _ in service.own if name in names]
    kinds = [(name, many, ahead + steps) for name, many, steps in whole_kinds(service)]
    return Service(service.own, service.common, kinds)


def _check_own(service, names):
    own = [name for name, _ in service.own]
    for name in names:
        if name not in own:
            raise UnknownName(name)
