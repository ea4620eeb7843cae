"""What the files of the package share: numbers, persons and groups, how groups cross, and fractions."""

from itertools import combinations
from math import gcd

from twopartings.errors import InvalidIndex, InvalidNumber, InvalidPerson, InvalidPersons

MOST_PERSONS = 20


def is_number(thing):
    """Whether any object is an integer. Python counts booleans as integers; the document does not."""
    return isinstance(thing, int) and not isinstance(thing, bool)


def is_person(thing, persons):
    """Whether any object is one of so many persons."""
    return is_number(thing) and 0 <= thing < persons


def is_ascending(items):
    """Whether each item is above the one ahead of it."""
    return all([low < high for low, high in zip(items, items[1:])])


def is_person_list(thing, persons):
    """Whether any object is an ascending list, perhaps empty, of some of so many persons."""
    if not isinstance(thing, list):
        return False
    return all([is_person(item, persons) for item in thing]) and is_ascending(thing)


def is_group(thing, persons):
    """Whether any object is a group of some of so many persons."""
    return is_person_list(thing, persons) and len(thing) >= 2


def are_groups(thing, persons):
    """Whether any object is a list of 0 to 19 unlike groups of so many persons."""
    if not isinstance(thing, list) or len(thing) >= MOST_PERSONS:
        return False
    if not all([is_group(group, persons) for group in thing]):
        return False
    return len({tuple(group) for group in thing}) == len(thing)


def need_persons(persons):
    """Raise InvalidPersons unless a company can have so many persons."""
    if not is_number(persons) or not 1 <= persons <= MOST_PERSONS:
        raise InvalidPersons("a company has one to twenty persons")


def need_person(person, persons):
    """Raise InvalidPerson unless this is one of so many persons."""
    if not is_person(person, persons):
        raise InvalidPerson(f"no such person among {persons}")


def need_number(number, least, most):
    """Raise InvalidNumber unless this is a number within its limits."""
    if not is_number(number) or not least <= number <= most:
        raise InvalidNumber(f"no number from {least} to {most}")


def need_index(index, many):
    """Raise InvalidIndex unless there is something with this index where there is so much."""
    if not is_number(index) or not 0 <= index < many:
        raise InvalidIndex(f"no such index among {many}")


def mask_of(group):
    """The group as one integer with a bit for each person, so that groups are quickly compared."""
    return sum([1 << person for person in group])


def masks_cross(one, other):
    """Whether two groups, given as masks, cross."""
    return (one & other) not in (0, one, other)


def any_cross(groups):
    """Whether two of these groups cross."""
    masks = [mask_of(group) for group in groups]
    return any([masks_cross(one, other) for one, other in combinations(masks, 2)])


def fraction(top, bottom):
    """The fraction (top, bottom) without a common divisor above 1."""
    divisor = gcd(top, bottom)
    return (top // divisor, bottom // divisor)
