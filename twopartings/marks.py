"""Marked persons: how few changes of marks a parting needs."""

from math import comb, factorial

from twopartings.basics import is_person_list, need_number, need_persons
from twopartings.errors import InvalidGroup
from twopartings.partings import parts_by_size, persons_of
from twopartings.told import ways_of

UNMARKED = 1
MARKED = 2


def changes_of(parting, some):
    """The least number of changes over all ways to mark the groups, these persons being marked."""
    if not is_person_list(some, persons_of(parting)):
        raise InvalidGroup("no ascending list of the persons")
    changes = 0
    # For each group and person the marks, joined bit by bit, by which it has the fewest changes within it. By its
    # other mark it would have one more at least, and that mark could save no more than one above it.
    marks = {}
    for part, halves in parts_by_size(parting).items():
        if halves == ():
            marks[part] = MARKED if part[0] in some else UNMARKED
        elif marks[halves[0]] & marks[halves[1]]:
            marks[part] = marks[halves[0]] & marks[halves[1]]
        else:
            marks[part] = MARKED | UNMARKED
            changes = changes + 1
    return changes


def ways_apart(persons, many):
    """In how many ways so many persons are set apart into so many companies, each of these then parted."""
    return comb(2 * persons - many - 1, many - 1) * ways_of(persons - many + 1)


def ways_with_changes(marked, others, changes):
    """How many partings of marked persons and others, some of each, need so many changes, one or more."""
    persons = marked + others
    # This is the theorem of Carter, Hendy, Penny, Szekely and Wormald (1990) on evolutionary trees of two colours.
    ways = ways_apart(marked, changes) * ways_apart(others, changes) * factorial(changes - 1)
    return ways * (2 * persons - 3 * changes) * ways_of(persons) // ways_of(persons - changes + 1)


def change_counts(persons, number):
    """Item c: how many partings have c changes if so many persons are marked."""
    need_persons(persons)
    need_number(number, 0, persons)
    if number in (0, persons):
        return [ways_of(persons)]
    most = min(number, persons - number)
    return [0] + [ways_with_changes(number, persons - number, changes) for changes in range(1, most + 1)]
