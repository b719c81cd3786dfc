"""Names of cells and kinds: which ones are good, and all sets of some."""

from anyworker.errors import InvalidName

LETTERS = "abcdefghijklmnopqrstuvwxyz"
LONGEST = 8


def check_name(name):
    """Raises InvalidName if a name is not one to eight letters from a to z."""
    if not 1 <= len(name) <= LONGEST or not all([sign in LETTERS for sign in name]):
        raise InvalidName(name)


def all_sets(names):
    """Returns all lists of some of the names, by their number, then in the order of the names."""
    found = []
    level = [[]]
    while level:
        found.extend(level)
        # The places within each list ascend, so that no set is told twice.
        level = [
            places + [place]
            for places in level
            for place in range(places[-1] + 1 if places else 0, len(names))
        ]
    return [[names[place] for place in places] for places in found]


def has_more(other, names):
    """Tells whether a set has all names of another one, and more."""
    return len(other) > len(names) and all([name in other for name in names])
