"""What the one worker answers, and which services answer alike."""

from anyworker.courses import Course, first_parting
from anyworker.errors import UnlikeKinds
from anyworker.names import all_sets, has_more
from anyworker.serving import check_request, requests_of, served


def run(service, requests):
    """Returns the list of the answers of the one worker."""
    held = {name: 0 for name, _ in service.own + service.common}
    answers = []
    for kind, argument in requests:
        check_request(service, kind, argument)
        told, held = served(service, kind, argument, held)
        answers.append(told)
    return answers


def first_unlike(one, other):
    """Returns the first list of requests whose last answers are unlike, None if there is none."""
    if one.kinds != other.kinds:
        raise UnlikeKinds((one.kinds, other.kinds))
    course, twin = Course(one), Course(other)
    path = first_parting(course.ways, twin.ways, (course.start, twin.start))
    if path is None:
        return None
    requests = requests_of(one)
    return [requests[at] for at in path]


def machine(service):
    """Returns the least machine, as a list of states."""
    return _least(_reached(Course(service)))


def _reached(course):
    """Returns a machine that has all states that are reached, numbered in this order."""
    states = [course.start]
    numbers = {course.start: 0}
    rows = []
    while len(rows) < len(states):
        row = []
        for told, after in course.ways(states[len(rows)]):
            if after not in numbers:
                numbers[after] = len(states)
                states.append(after)
            row.append((told, numbers[after]))
        rows.append(row)
    return rows


def _least(rows):
    """Returns the least machine that answers as a machine numbered as its states are reached.

    At first all states are in class 0. Then those stay together that show alike
    answers and classes, until no class is parted any more. The classes are numbered
    as their first states are, hence as they are reached first.
    """
    classes = [0 for _ in rows]
    many = 1
    while True:
        shown = [tuple([(told, classes[after]) for told, after in row]) for row in rows]
        numbers = {}
        for face in shown:
            numbers.setdefault(face, len(numbers))
        if len(numbers) == many:
            return [list(face) for face in numbers]
        classes = [numbers[face] for face in shown]
        many = len(numbers)


def forgettable(service):
    """Returns the list of all greatest sets of own cells that `forgetting` may take."""
    course = Course(service)
    good = [names for names in all_sets([name for name, _ in service.own]) if _can_forget(course, names)]
    return [names for names in good if not any([has_more(other, names) for other in good])]


def _can_forget(course, names):
    """Tells whether a worker that forgets these cells answers as one that does not."""
    def ways(state):
        # `forgetting` serves each request as if it came with 0 in these cells.
        return course.ways(course.forgotten(state, names))

    return first_parting(course.ways, ways, (course.start, course.start)) is None
