"""What several workers make of a service, and whether it minds who serves."""

from anyworker.courses import Course
from anyworker.errors import NotFree, UnlikeCells, UnlikeKinds
from anyworker.names import all_sets, has_more
from anyworker.serving import at_first, check_kinds, check_request, check_worker, requests_of, served_apart
from anyworker.sides import Side, all_places, first_wrong, least_missed, moves

# The worker that goes wrong and all others, as the first row numbers them.
WHO = ((0, 1), (1, 0))


def serve(service, row):
    """Returns the list of tuples (answer, list of the common values) behind each request of a row."""
    _check_row(service, row)
    fresh, common = at_first(service)
    held = {}
    found = []
    for kind, argument, worker in row:
        own = held.get(worker, fresh)
        told, held[worker], common = served_apart(service, kind, argument, own, common)
        found.append((told, list(common)))
    return found


def holds(service, row):
    """Returns True if the workers serve a row as the one worker does, otherwise False."""
    return serve(service, row) == serve(service, [(kind, argument, 0) for kind, argument, _ in row])


def _check_row(service, row):
    for kind, argument, worker in row:
        check_request(service, kind, argument)
        check_worker(worker)


def parting(service):
    """Returns the first row that does not hold, None if the service is free."""
    return bound_parting(service, [])


def closed(service):
    """Returns the ascending list of all places that come about in rows of a free service."""
    row = parting(service)
    if row is not None:
        raise NotFree(row)
    return all_places(_plain_side(service))


def judge(service, table):
    """Returns True if a table shows that the service is free, otherwise False."""
    side = _plain_side(service)
    places = {place: True for place in table}
    return side.first_place() in places and all([_stays(side, place, places) for place in places])


def _stays(side, place, places):
    """Tells whether the worker is right in a place, and all that come behind it are among the places."""
    own, common, _ = place
    _, _, fresh = side.first_place()
    came = [after for pair in moves(side, side, place) for after in pair]
    return (own, common, fresh) in places and all([after in places for after in came])


def fewest_missed(service):
    """Returns how few requests a worker has to miss to go wrong, None if the service is free."""
    return least_missed(_plain_side(service))


def bound_parting(service, kinds):
    """Returns the first row that does not hold although worker 0 serves all requests of some kinds."""
    check_kinds(service, kinds)
    side = _plain_side(service)
    return _first_row(service, _bound_rows(service, side, kinds))


def mixed_parting(service, edition):
    """Returns the first row that does not hold if workers with odd numbers run another edition."""
    if service.own != edition.own or service.common != edition.common:
        raise UnlikeCells(((service.own, service.common), (edition.own, edition.common)))
    if service.kinds != edition.kinds:
        raise UnlikeKinds((service.kinds, edition.kinds))
    one, other = _plain_side(service), _plain_side(edition)
    # Beside worker 0, who runs the service too, the next one that does so is worker 2.
    roles = [(one, (0, 1)), (other, (1, 0)), (one, (2, 0))]
    return _first_row(service, [first_wrong(one, side, numbers, []) for side, numbers in roles])


def least_sharings(service):
    """Returns the list of all least sets of own cells that make the service free if they are common."""
    return _least(_free_sets(service))


def breaking(service):
    """Returns the list of all tuples (names, name) where one more common cell makes the service unfree."""
    own = [name for name, _ in service.own]
    free = _free_sets(service)
    return [
        (list(names), name)
        for names in free
        for name in own
        if name not in names and [each for each in own if each in names + [name]] not in free
    ]


def least_bindings(service):
    """Returns the list of all least sets of kinds that have to be bound to one worker."""
    side = _plain_side(service)
    return _least([
        kinds
        for kinds in all_sets([name for name, _ in service.kinds])
        if all([row is None for row in _bound_rows(service, side, kinds)])
    ])


def _plain_side(service):
    return Side(Course(service), [name for name, _ in service.own])


def _bound_rows(service, side, kinds):
    """Returns the first rows in which worker 0, or another one, is wrong; None where there is none."""
    bound = [at for at, (kind, _) in enumerate(requests_of(service)) if kind in kinds]
    return [first_wrong(side, side, numbers, bound) for numbers in WHO]


def _first_row(service, rows):
    """Returns the first one of rows, some of them None, as the document tells rows.

    A row in which another worker goes wrong sooner is not first: then that worker
    has a shorter one.
    """
    found = [(len(row), row) for row in rows if row is not None]
    if not found:
        return None
    _, first = min(found)
    requests = requests_of(service)
    return [requests[at] + (number,) for at, number in first]


def _free_sets(service):
    """Returns the list of all sets of own cells that make the service free if they are common."""
    course = Course(service)
    own = [name for name, _ in service.own]
    return [names for names in all_sets(own) if _is_free(Side(course, [name for name in own if name not in names]))]


def _is_free(side):
    return first_wrong(side, side, WHO[0], []) is None


def _least(sets):
    return [names for names in sets if not any([has_more(names, other) for other in sets])]
