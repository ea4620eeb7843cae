"""Families of groups, and histories: the ways in which parts are joined until the company is one."""

from math import comb, factorial

from twopartings.basics import any_cross, are_groups, fraction, is_group, need_persons
from twopartings.errors import InvalidGroup
from twopartings.partings import persons_of


def is_family(persons, thing):
    """Whether any object is a family of 0 to 19 groups of so many persons."""
    need_persons(persons)
    return are_groups(thing, persons) and not any_cross(thing)


def family_counts(persons):
    """Item g of n: how many families have the company and g groups in all (result R7)."""
    need_persons(persons)
    counts = [1]
    for come in range(2, persons + 1):
        counts = [
            (come + groups - 2) * fewer + groups * alike
            for groups, (fewer, alike) in enumerate(zip([0] + counts, counts + [0]))
        ]
    return counts


def histories_of(parts):
    """In how many ways so many parts are joined, two and two, until they are one."""
    ways = 1
    for there in range(2, parts + 1):
        ways = ways * comb(there, 2)
    return ways


def all_histories(persons):
    """How many histories there are of so many persons."""
    need_persons(persons)
    return histories_of(persons)


def histories(parting):
    """How many histories make just the groups of a parting."""
    sequences = factorial(persons_of(parting) - 1)
    alike = 1
    for group in parting:
        # Of the group and those within it, len(group) - 1 in all, each is the last one as often: it must be this one.
        alike = alike * (len(group) - 1)
    return sequences // alike


def histories_making(size, others):
    """How many histories, of a group of this size and so many others, make the group."""
    # Item k: in how many ways a history goes on with so many parts inside of the group, and k outside of it.
    ways = [histories_of(outside + 1) for outside in range(others + 1)]
    for inside in range(2, size + 1):
        ahead = ways
        ways = [comb(inside, 2) * ahead[0]]
        for outside in range(1, others + 1):
            # Until the group is one part, no join may reach across its border.
            ways.append(comb(inside, 2) * ahead[outside] + comb(outside, 2) * ways[-1])
    return ways[others]


def history_share(persons, group):
    """The share of all histories that make a group."""
    need_persons(persons)
    if not is_group(group, persons):
        raise InvalidGroup("no group of the company")
    return fraction(histories_making(len(group), persons - len(group)), histories_of(persons))
