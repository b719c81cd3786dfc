"""How one request is served."""

from anyworker.errors import InvalidArgument, InvalidWorker, UnknownKind
from anyworker.values import worth


def requests_of(service):
    """Returns the list of all requests of a service, as tuples (kind, argument), in order."""
    return [(kind, argument) for kind, many in service.kinds for argument in range(many)]


def check_request(service, kind, argument):
    """Raises UnknownKind, or InvalidArgument, if a service has no such request."""
    many = dict(service.kinds)
    if kind not in many:
        raise UnknownKind(kind)
    if not 0 <= argument < many[kind]:
        raise InvalidArgument(argument)


def check_kinds(service, names):
    """Raises UnknownKind for the first name that no kind of a service has."""
    known = [name for name, _ in service.kinds]
    for name in names:
        if name not in known:
            raise UnknownKind(name)


def check_worker(worker):
    """Raises InvalidWorker if the number of a worker is negative."""
    if worker < 0:
        raise InvalidWorker(worker)


def at_first(service):
    """Returns the tuples of the own and of the common values with which all begin."""
    return tuple([0 for _ in service.own]), tuple([0 for _ in service.common])


def served(service, kind, argument, held):
    """Returns the answer to a request, and a new dict of what the cells hold behind it."""
    sizes = dict(service.own + service.common)
    now = dict(held)
    left = service[kind]
    while left:
        step = left.pop(0)
        if step.sign == "put":
            name, value = step.parts
            now[name] = worth(value, now, argument) % sizes[name]
        elif step.sign == "when":
            value, steps, others = step.parts
            left = list(others if worth(value, now, argument) == 0 else steps) + left
        else:
            return worth(step.parts[0], now, argument), now
    return None, now


def served_apart(service, kind, argument, own, common):
    """Returns the answer to a request, and the tuples of the own and common values behind it."""
    names = [name for name, _ in service.own + service.common]
    told, now = served(service, kind, argument, dict(zip(names, own + common)))
    behind = tuple([now[name] for name in names])
    return told, behind[:len(own)], behind[len(own):]
