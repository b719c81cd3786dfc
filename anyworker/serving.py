"""How one request is served."""

from anyworker.errors import InvalidArgument, UnknownKind
from anyworker.values import worth


def requests_of(service):
    """Returns the list of all requests of a service, as tuples (kind, argument), in order."""
    return [(kind, argument) for kind, many in service.kinds for argument in range(many)]


def check_request(service, kind, argument):
    """Raises UnknownKind, or InvalidArgument, if a service has no such request."""
    many = dict(service.kinds)
    if kind not in many:
        raise UnknownKind(kind)
    if not 0 <= argument < many[kind]:
        raise InvalidArgument(argument)


def served(service, kind, argument, held):
    """Returns the answer to a request, and a new dict of what the cells hold behind it."""
    sizes = dict(service.own + service.common)
    now = dict(held)
    left = service[kind]
    while left:
        step = left.pop(0)
        if step.sign == "put":
            name, value = step.parts
            now[name] = worth(value, now, argument) % sizes[name]
        elif step.sign == "when":
            value, steps, others = step.parts
            left = list(others if worth(value, now, argument) == 0 else steps) + left
        else:
            return worth(step.parts[0], now, argument), now
    return None, now
