"""Several partings of the same persons: what they have in common, and the families nearest to them."""

from twopartings.basics import MOST_PERSONS, are_groups, is_group, need_number
from twopartings.errors import InvalidGroup, InvalidGroups, InvalidPartings
from twopartings.families import is_family
from twopartings.partings import is_parting
from twopartings.told import need_family


def need_partings(partings):
    """Raise InvalidPartings unless these are 1 to 20 partings of as many persons each; tells how many persons."""
    if not isinstance(partings, list) or not 1 <= len(partings) <= MOST_PERSONS:
        raise InvalidPartings("no list of 1 to 20 partings")
    if not all([is_parting(parting) for parting in partings]):
        raise InvalidPartings("an item is no parting")
    if not all([len(parting) == len(partings[0]) for parting in partings]):
        raise InvalidPartings("the partings are not of as many persons each")
    return len(partings[0]) + 1


def times_of(partings):
    """How many of valid partings have a group, for each group that one of them has, as a tuple."""
    times = {}
    for parting in partings:
        for group in parting:
            times[tuple(group)] = times.get(tuple(group), 0) + 1
    return times


def had_by(partings, least):
    """The ascending list of the groups that at least so many of valid partings have."""
    times = times_of(partings)
    return [list(group) for group in sorted(times) if times[group] >= least]


def common_groups(partings):
    """The ascending list of the groups that all partings have."""
    need_partings(partings)
    return had_by(partings, len(partings))


def most_groups(partings):
    """The ascending list of the groups that more than half of the partings have."""
    need_partings(partings)
    return had_by(partings, len(partings) // 2 + 1)


def groups_from(partings, number):
    """The ascending list of the groups that at least so many of the partings have."""
    need_partings(partings)
    need_number(number, 1, len(partings))
    return had_by(partings, number)


def how_many(partings, group):
    """How many of the partings have a group."""
    if not is_group(group, need_partings(partings)):
        raise InvalidGroup("no group of the company")
    return len([parting for parting in partings if group in parting])


def inner_times(partings):
    """What times_of tells, the company apart."""
    persons = len(partings[0]) + 1
    return {group: many for group, many in times_of(partings).items() if len(group) < persons}


def sum_of_differing(partings, family):
    """How many groups, over valid partings, either a family or the parting has and the other one lacks."""
    persons = len(partings[0]) + 1
    times = inner_times(partings)
    told = {tuple(group): True for group in family if len(group) < persons}
    lacked = sum([many for group, many in times.items() if group not in told])
    return lacked + sum([len(partings) - times.get(group, 0) for group in told])


def differing(partings, family):
    """The sum of result R6 for a family."""
    if not are_groups(family, need_partings(partings)):
        raise InvalidGroups("no list of 0 to 19 unlike groups of the company")
    need_family(family)
    return sum_of_differing(partings, family)


def least_of_differing(partings):
    """The least sum of result R6 that a family has: of each group the lesser one of having it and lacking it."""
    return sum([min(many, len(partings) - many) for many in inner_times(partings).values()])


def least_sum(partings):
    """The least sum of result R6 that a family has."""
    need_partings(partings)
    return least_of_differing(partings)


def is_nearest(partings, thing):
    """Whether any object is a family for which the sum of result R6 is the least."""
    if not is_family(need_partings(partings), thing):
        return False
    return sum_of_differing(partings, thing) == least_of_differing(partings)
