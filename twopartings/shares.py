"""Shares and means over all partings with all told groups."""

from math import comb

from twopartings.basics import fraction, need_number, need_person
from twopartings.errors import InvalidPerson
from twopartings.told import all_units, certain_groups, need_family, need_told, units_in, ways_of


def need_unlike(persons, some):
    """Raise InvalidPerson unless these are unlike ones of so many persons."""
    for person in some:
        need_person(person, persons)
    if len(set(some)) < len(some):
        raise InvalidPerson("a person is named twice")


def shares_by(counts, many):
    """The list of so many shares: of each count, in the sum of all counts."""
    total = sum(counts)
    return [fraction(count, total) for count in (counts + [0] * many)[:many]]


def sum_of(fractions):
    """The sum of fractions."""
    top, bottom = 0, 1
    for part, whole in fractions:
        top, bottom = top * whole + part * bottom, bottom * whole
    return fraction(top, bottom)


def joined_counts(one, other):
    """Item k: in how many ways both together tell k, one[i] and other[j] being the ways to tell i and j."""
    counts = [0] * (len(one) + len(other) - 1)
    for low, first in enumerate(one):
        for high, second in enumerate(other):
            counts[low + high] += first * second
    return counts


def choices(sizes, persons):
    """Row k, item p: in how many ways k units with p persons in all are chosen from those of these sizes."""
    rows = [[0] * (persons + 1) for _ in range(len(sizes) + 1)]
    rows[0][0] = 1
    for at, size in enumerate(sizes):
        for many in range(at, -1, -1):
            for held in range(persons - size + 1):
                rows[many + 1][held + size] += rows[many][held]
    return rows


def least_certain(persons, told, some):
    """The least of the company and the told groups that has all of some persons."""
    with_all = [group for group in certain_groups(persons, told) if all([person in group for person in some])]
    return min(with_all, key=len)


def unit_with(units, person):
    """The unit that has the person."""
    return [unit for unit in units if person in unit][0]


def triple_share(persons, told, one, other, third):
    """The share in which some group has one and other but not third."""
    need_told(persons, told)
    need_unlike(persons, [one, other, third])
    need_family(told)
    units = units_in(told, least_certain(persons, told, [one, other, third]))
    if unit_with(units, one) == unit_with(units, other):
        return (1, 1)
    if unit_with(units, third) in [unit_with(units, one), unit_with(units, other)]:
        return (0, 1)
    # Three unlike units: each two of them are alike likely to be together first.
    return (1, 3)


def depth_counts(many):
    """Item d: in how many partings of so many units a unit has the depth d."""
    counts = [1]
    for come in range(1, many):
        # Of the 2 * come - 1 places for one unit more, depth + 1 lie above a unit of this depth.
        counts = [
            depth * above + (2 * come - 2 - depth) * beside
            for depth, (above, beside) in enumerate(zip([0] + counts, counts + [0]))
        ]
    return counts


def depth_shares(persons, told, person):
    """The list of the shares in which a person has the depth 0, 1, .. n - 1."""
    need_told(persons, told)
    need_person(person, persons)
    need_family(told)
    counts = [1]
    for group in certain_groups(persons, told):
        if person in group:
            counts = joined_counts(counts, depth_counts(len(units_in(told, group))))
    return shares_by(counts, persons)


def mean_depth(persons, told, person):
    """The mean depth of a person."""
    shares = depth_shares(persons, told, person)
    return sum_of([(depth * top, bottom) for depth, (top, bottom) in enumerate(shares)])


def apart_ways(many):
    """In how many partings of so many units the first step parts one given unit from another one."""
    ways = 0
    for beside in range(many - 1):
        ways = ways + comb(many - 2, beside) * ways_of(beside + 1) * ways_of(many - beside - 1)
    return ways


def meet_shares(persons, told, one, other):
    """The list of the shares in which the least group of two persons has 0, 1, .. n persons."""
    need_told(persons, told)
    need_unlike(persons, [one, other])
    need_family(told)
    units = units_in(told, least_certain(persons, told, [one, other]))
    both = len(unit_with(units, one)) + len(unit_with(units, other))
    sizes = [len(unit) for unit in units if one not in unit and other not in unit]
    counts = [0] * (persons + 1)
    for many, row in enumerate(choices(sizes, persons - both)):
        # The units of the least group, many and the two, are parted; then it is one unit among the rest.
        ways = apart_ways(many + 2) * ways_of(len(sizes) - many + 1)
        for held, chosen in enumerate(row):
            counts[both + held] += chosen * ways
    return shares_by(counts, persons + 1)


def pair_counts(singles, others):
    """Item k: in how many partings of single persons and other units just k groups have two single persons."""
    counts = [ways_of(others)]
    # The first person has nobody to join where there is no other unit.
    for come in range(0 if others else 1, singles):
        # A newcomer makes one more such group with a person who is in none, and none in any other place.
        counts = [
            (come - 2 * (pairs - 1)) * fewer + (2 * (come + others) - 1 - (come - 2 * pairs)) * alike
            for pairs, (fewer, alike) in enumerate(zip([0] + counts, counts + [0]))
        ]
    return counts


def pair_shares(persons, told):
    """The list of the shares in which just 0, 1, .. n // 2 groups have two persons."""
    need_told(persons, told)
    need_family(told)
    counts = [1]
    for units in all_units(persons, told):
        singles = len([unit for unit in units if len(unit) == 1])
        counts = joined_counts(counts, pair_counts(singles, len(units) - singles))
    return shares_by(counts, persons // 2 + 1)


def mean_within(units, persons, size):
    """The mean number of groups of a size that have two or more of the units, in partings of these units."""
    rows = choices([len(unit) for unit in units], persons)
    ways = [ways_of(many) * ways_of(len(units) - many + 1) for many in range(len(rows))]
    return fraction(sum([rows[many][size] * ways[many] for many in range(2, len(rows))]), ways_of(len(units)))


def mean_groups(persons, told, size):
    """The mean number of groups of a size."""
    need_told(persons, told)
    need_number(size, 2, persons)
    need_family(told)
    return sum_of([mean_within(units, persons, size) for units in all_units(persons, told)])


def first_shares(persons, told):
    """The list of the shares in which the lesser part of the company has 0, 1, .. n // 2 persons."""
    need_told(persons, told)
    need_family(told)
    if persons == 1:
        return [(1, 1)]
    sizes = [len(unit) for unit in units_in(told, list(range(persons)))]
    counts = [0] * (persons // 2 + 1)
    rows = choices(sizes, persons)
    for many in range(1, len(sizes)):
        # Each way to part the company is counted twice, once for either part: the shares are the same.
        ways = ways_of(many) * ways_of(len(sizes) - many)
        for held, chosen in enumerate(rows[many]):
            counts[min(held, persons - held)] += chosen * ways
    return shares_by(counts, persons // 2 + 1)
