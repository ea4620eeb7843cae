"""Told groups: how many partings have them all, and what they leave open."""

from twopartings.basics import are_groups, fraction, is_group, mask_of, masks_cross, need_persons
from twopartings.errors import Crossing, InvalidGroup, InvalidGroups


def ways_of(many):
    """In how many ways so many units are parted in two, and again in two: [m] of the document."""
    ways = 1
    for odd in range(3, 2 * many - 2, 2):
        ways = ways * odd
    return ways


def count_partings(persons):
    """How many partings there are of so many persons."""
    need_persons(persons)
    return ways_of(persons)


def need_told(persons, told):
    """Raise InvalidPersons or InvalidGroups unless these are told groups of so many persons."""
    need_persons(persons)
    if not are_groups(told, persons):
        raise InvalidGroups("no list of 0 to 19 unlike groups of the company")


def first_crossing(groups):
    """The indices (first, second) of the error Crossing, None if no two of these groups cross."""
    masks = [mask_of(group) for group in groups]
    for second, mask in enumerate(masks):
        for first in range(second):
            if masks_cross(masks[first], mask):
                return (first, second)
    return None


def need_family(groups):
    """Raise Crossing if two of these groups cross."""
    found = first_crossing(groups)
    if found is not None:
        raise Crossing(found[0], found[1])


def crossing(persons, told):
    """The least index of a told group that crosses one ahead of it, behind the least of one that it crosses."""
    need_told(persons, told)
    return first_crossing(told)


def certain_groups(persons, told):
    """The company, once, and the told groups: what all partings with the told groups have."""
    return [list(range(persons))] + [group for group in told if len(group) < persons]


def lies_within(one, other):
    """Whether a group lies within another one, unlike it; they do not cross, so one person tells."""
    return len(one) < len(other) and one[0] in other


def units_in(told, group):
    """The units of the company or of a told group, if no two told groups cross."""
    inner = [other for other in told if lies_within(other, group)]
    greatest = [list(one) for one in inner if not any([lies_within(one, other) for other in inner])]
    held = {person: True for unit in greatest for person in unit}
    return sorted(greatest + [[person] for person in group if person not in held])


def all_units(persons, told):
    """The lists of units of the company and of each told group, if no two told groups cross."""
    return [units_in(told, group) for group in certain_groups(persons, told)]


def count_going_on(unit_lists, come):
    """How many partings with all told groups go on from each good one of the first come persons (result R3)."""
    many = 1
    for units in unit_lists:
        met = len([unit for unit in units if unit[0] < come])
        many = many * ways_of(len(units)) // ways_of(met)
    return many


def count_with(persons, told):
    """How many partings have all told groups."""
    need_told(persons, told)
    if first_crossing(told) is not None:
        return 0
    return count_going_on(all_units(persons, told), 0)


def share_with(persons, told):
    """The share of the partings that have all told groups."""
    return fraction(count_with(persons, told), count_partings(persons))


def units_of(persons, told, group):
    """The ascending list of the units of a told group or the company."""
    need_told(persons, told)
    if not is_group(group, persons) or group not in certain_groups(persons, told):
        raise InvalidGroup("neither a told group nor the company")
    need_family(told)
    return units_in(told, group)


def group_share(persons, told, group):
    """The share of those with a group, of the partings with all told groups."""
    need_told(persons, told)
    if not is_group(group, persons):
        raise InvalidGroup("no group of the company")
    need_family(told)
    if group in told:
        return (1, 1)
    more = told + [group]
    if first_crossing(more) is not None:
        return (0, 1)
    return fraction(count_going_on(all_units(persons, more), 0), count_going_on(all_units(persons, told), 0))
