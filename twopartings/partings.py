"""Partings: what is one, and what its groups tell."""

from twopartings.basics import MOST_PERSONS, any_cross, is_ascending, is_group, is_person_list, need_person
from twopartings.errors import InvalidGroup, InvalidParting, InvalidPerson


def is_parting(thing):
    """Whether any object is a parting of one to twenty persons."""
    if not isinstance(thing, list) or len(thing) >= MOST_PERSONS:
        return False
    persons = len(thing) + 1
    if not all([is_group(group, persons) for group in thing]):
        return False
    # Of n persons, at most n - 1 unlike groups stand together without crossing. If there are n - 1,
    # the company is among them and each has just two parts: else one more group would find room.
    return is_ascending(thing) and not any_cross(thing)


def persons_of(parting):
    """How many persons a parting has."""
    if not is_parting(parting):
        raise InvalidParting("no parting of one to twenty persons")
    return len(parting) + 1


def need_group_in(parting, group):
    """Raise InvalidParting or InvalidGroup unless this is a parting and one of its groups."""
    persons = persons_of(parting)
    # Python finds [False, 1] equal to [0, 1], so being among the groups is not enough.
    if not is_group(group, persons) or group not in parting:
        raise InvalidGroup("no group of the parting")


def both_parts(parting, group):
    """Both parts of a group of a valid parting, that with the least person first."""
    first = [group[0]]
    for inner in parting:
        if inner[0] == group[0] and len(first) < len(inner) < len(group):
            first = inner
    return [list(first), [person for person in group if person not in first]]


def parts_by_size(parting):
    """Each person, as a tuple, and each group of a valid parting -> its parts, what lies within ahead of it."""
    parts = {(person,): () for person in range(len(parting) + 1)}
    for group in sorted(parting, key=len):
        parts[tuple(group)] = tuple([tuple(part) for part in both_parts(parting, group)])
    return parts


def parts_of(parting, group):
    """The list of both parts of a group, that with the least person first."""
    need_group_in(parting, group)
    return both_parts(parting, group)


def maker_of(parting, group):
    """The greater one of the least persons of both parts of a group."""
    need_group_in(parting, group)
    return both_parts(parting, group)[1][0]


def depth_of(parting, person):
    """How many groups have the person."""
    need_person(person, persons_of(parting))
    return len([group for group in parting if person in group])


def least_group(parting, one, other):
    """The group with fewest persons that has both persons."""
    persons = persons_of(parting)
    need_person(one, persons)
    need_person(other, persons)
    if one == other:
        raise InvalidPerson("a person has no least group with itself")
    return list(min([group for group in parting if one in group and other in group], key=len))


def cut(parting, some):
    """A valid parting cut to some of its persons, who are counted anew."""
    places = {person: place for place, person in enumerate(some)}
    meetings = [[places[person] for person in group if person in places] for group in parting]
    kept = {tuple(meeting): True for meeting in meetings if len(meeting) >= 2}
    return [list(meeting) for meeting in sorted(kept)]


def cut_to(parting, some):
    """The parting of some of the persons, with some[i] called i."""
    if not is_person_list(some, persons_of(parting)) or some == []:
        raise InvalidGroup("no ascending list of one or more of the persons")
    return cut(parting, some)
