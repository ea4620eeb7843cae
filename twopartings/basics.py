"""What the files of the package share: numbers, persons and groups, and how groups cross."""

from itertools import combinations

from twopartings.errors import InvalidPerson

MOST_PERSONS = 20


def is_number(thing):
    """Whether any object is an integer. Python counts booleans as integers; the document does not."""
    return isinstance(thing, int) and not isinstance(thing, bool)


def is_person(thing, persons):
    """Whether any object is one of so many persons."""
    return is_number(thing) and 0 <= thing < persons


def is_ascending(items):
    """Whether each item is above the one ahead of it."""
    return all([low < high for low, high in zip(items, items[1:])])


def is_person_list(thing, persons):
    """Whether any object is an ascending list, perhaps empty, of some of so many persons."""
    if not isinstance(thing, list):
        return False
    return all([is_person(item, persons) for item in thing]) and is_ascending(thing)


def is_group(thing, persons):
    """Whether any object is a group of some of so many persons."""
    return is_person_list(thing, persons) and len(thing) >= 2


def need_person(person, persons):
    """Raise InvalidPerson unless this is one of so many persons."""
    if not is_person(person, persons):
        raise InvalidPerson(f"no such person among {persons}")


def mask_of(group):
    """The group as one integer with a bit for each person, so that groups are quickly compared."""
    return sum([1 << person for person in group])


def masks_cross(one, other):
    """Whether two groups, given as masks, cross."""
    return (one & other) not in (0, one, other)


def any_cross(groups):
    """Whether two of these groups cross."""
    masks = [mask_of(group) for group in groups]
    return any([masks_cross(one, other) for one, other in combinations(masks, 2)])
