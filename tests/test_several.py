"""Points 3, 4 and 13: what several partings have in common, and the families nearest to them."""

import unittest
from itertools import combinations_with_replacement, product

from tests.helpers import (
    TWENTY, all_groups, all_trees, comb, cross, error_of, families, halved, mixed, odd_for, odd_things,
    parting_of, trees_of_twenty,
)
from twopartings.errors import Crossing, InvalidGroups, InvalidNumber, InvalidPartings
from twopartings.several import (
    common_groups, differing, groups_from, how_many, is_nearest, least_sum, most_groups,
)

HALVES = [[0, 1], [0, 1, 2, 3], [2, 3]]
CHAIN = [[0, 1], [0, 1, 2], [0, 1, 2, 3]]
OTHER = [[0, 1, 2, 3], [0, 2], [1, 3]]


def few(persons, many, step):
    """Lists of so many partings of so many persons, some of all there are."""
    every = [parting_of(tree) for tree in all_trees(list(range(persons)))]
    return [mixed(list(some), many) for some in list(combinations_with_replacement(every, many))[::step]]


def small_lists():
    """Lists of few partings of few persons, and of many of them."""
    found = [[[]], [[]] * 20, [[[0, 1]]], [[[0, 1]]] * 20]
    found += few(3, 1, 1) + few(3, 2, 1) + few(3, 3, 1) + few(3, 4, 1) + few(4, 1, 1) + few(4, 2, 1) + few(4, 3, 7)
    every = [parting_of(tree) for tree in all_trees([0, 1, 2, 3])]
    found += [every, every[:10], every + every[:5], every[3:5] * 10, (every[2:4] * 5 + every[9:10] * 10)]
    return found


def lists_of_twenty():
    """Lists of up to twenty partings of twenty persons, with groups that half, most or all of them have."""
    partings = [parting_of(tree) for tree in trees_of_twenty()]
    near = [parting_of((comb(TWENTY[:12]), tree)) for tree in (comb(TWENTY[12:]), halved(TWENTY[12:]))]
    near.append(parting_of((halved(TWENTY[:12]), halved(TWENTY[12:]))))
    return [
        partings[:1], partings[:2], partings[2:9], partings, partings[:18] + near[:2], near, near[:2],
        near + near[:1], near * 6 + partings[:2], [near[0]] * 11 + [partings[4]] * 9, [near[0], partings[4]] * 10,
    ]


def had(partings):
    """For each group that a parting has, as a tuple, how many have it."""
    every = [tuple(group) for parting in partings for group in parting]
    return {group: every.count(group) for group in every}


def sum_for(partings, family):
    """The sum of result R6, by its words."""
    company = tuple(range(len(partings[0]) + 1))
    told = set(map(tuple, family)) - {company}
    return sum(len(told ^ (set(map(tuple, parting)) - {company})) for parting in partings)


class Groups(unittest.TestCase):

    def check(self, partings):
        times = had(partings)
        for number in range(1, len(partings) + 1):
            expected = sorted(list(group) for group in times if times[group] >= number)
            self.assertEqual(groups_from(partings, number), expected)
        self.assertEqual(common_groups(partings), groups_from(partings, len(partings)))
        most = sorted(list(group) for group in times if 2 * times[group] > len(partings))
        self.assertEqual(most_groups(partings), most)
        for group in [list(group) for group in times] + [[0, len(partings[0])]]:
            if len(group) > 1 and group[0] < group[1]:
                self.assertEqual(how_many(partings, group), times.get(tuple(group), 0))
        for number in (0, -1, len(partings) + 1, 21, 10 ** 30, -(10 ** 30)):
            self.assertIs(error_of(groups_from, partings, number), InvalidNumber)

    def test_few_persons(self):
        for partings in small_lists():
            self.check(partings)

    def test_twenty_persons(self):
        for partings in lists_of_twenty():
            self.check(partings)

    def test_how_many_have_each_group_of_few_persons(self):
        for partings in small_lists():
            for group in all_groups(len(partings[0]) + 1):
                self.assertEqual(how_many(partings, group), sum(group in parting for parting in partings))

    def test_groups_that_most_have_never_cross(self):
        for partings in small_lists() + lists_of_twenty():
            groups = most_groups(partings)
            self.assertFalse(any(cross(one, other) for one, other in product(groups, repeat=2)))

    def test_by_hand(self):
        self.assertEqual(common_groups([HALVES, CHAIN]), [[0, 1], [0, 1, 2, 3]])
        self.assertEqual(common_groups([HALVES, CHAIN, OTHER]), [[0, 1, 2, 3]])
        self.assertEqual(most_groups([HALVES, CHAIN]), [[0, 1], [0, 1, 2, 3]])
        self.assertEqual(most_groups([HALVES, CHAIN, OTHER]), [[0, 1], [0, 1, 2, 3]])
        self.assertEqual(most_groups([HALVES, OTHER]), [[0, 1, 2, 3]])
        self.assertEqual(groups_from([HALVES, OTHER], 1), [[0, 1], [0, 1, 2, 3], [0, 2], [1, 3], [2, 3]])
        self.assertEqual(how_many([HALVES, CHAIN, HALVES], [2, 3]), 2)
        self.assertEqual(how_many([HALVES, CHAIN, HALVES], [0, 3]), 0)

    def test_one_person_and_two(self):
        self.assertEqual(common_groups([[], [], []]), [])
        self.assertEqual(most_groups([[]]), [])
        self.assertEqual(groups_from([[], []], 2), [])
        self.assertEqual(common_groups([[[0, 1]]]), [[0, 1]])
        self.assertEqual(how_many([[[0, 1]], [[0, 1]]], [0, 1]), 2)

    def test_half_is_not_more_than_half(self):
        for many in (1, 5, 10):
            self.assertEqual(most_groups([HALVES] * many + [CHAIN] * many), [[0, 1], [0, 1, 2, 3]])
        self.assertEqual(most_groups([HALVES] * 10 + [CHAIN] * 9), HALVES)
        self.assertEqual(most_groups([HALVES] * 9 + [CHAIN] * 11), CHAIN)


class Sums(unittest.TestCase):

    def test_all_families_of_few_persons(self):
        for partings in small_lists():
            sums = []
            for seed, family in enumerate(families(len(partings[0]) + 1)):
                told = mixed(family, seed)
                sums.append(sum_for(partings, told))
                self.assertEqual(differing(partings, told), sums[-1])
            self.assertEqual(least_sum(partings), min(sums))
            for seed, family in enumerate(families(len(partings[0]) + 1)):
                self.assertIs(is_nearest(partings, mixed(family, seed + 1)), sums[seed] == min(sums))

    def test_some_lists_of_five_persons(self):
        every = families(5)
        for partings in few(5, 2, 1000) + few(5, 3, 60000)[:2] + [few(5, 1, 7)[2] * 3 + few(5, 1, 7)[4] * 3]:
            sums = [sum_for(partings, family) for family in every]
            self.assertEqual([differing(partings, family) for family in every], sums)
            self.assertEqual(least_sum(partings), min(sums))
            self.assertEqual([is_nearest(partings, family) for family in every], [one == min(sums) for one in sums])

    def test_the_company_does_not_count(self):
        for partings in small_lists() + lists_of_twenty():
            company = list(range(len(partings[0]) + 1))
            for family in partings + [most_groups(partings), common_groups(partings)]:
                inner = [group for group in family if group != company]
                self.assertEqual(differing(partings, inner), sum_for(partings, family))
                self.assertIs(is_nearest(partings, inner), is_nearest(partings, family))
                if len(company) > 1:
                    self.assertEqual(differing(partings, [company] + inner), sum_for(partings, family))
        self.assertEqual(differing([[[0, 1]]], []), 0)
        self.assertEqual(differing([[[0, 1]]] * 20, [[0, 1]]), 0)

    def test_twenty_persons(self):
        for partings in lists_of_twenty():
            for family in partings + [[], [TWENTY], [[0, 19]], [TWENTY[:12]], parting_of(halved(TWENTY[::-1]))]:
                self.assertEqual(differing(partings, family), sum_for(partings, family))
                self.assertGreaterEqual(differing(partings, family), least_sum(partings))

    def test_the_least_sum_of_twenty_persons(self):
        for partings in lists_of_twenty():
            groups = most_groups(partings)
            self.assertEqual(least_sum(partings), sum_for(partings, groups))
            times = had(partings)
            self.assertIs(is_nearest(partings, groups), True)
            self.assertIs(is_nearest(partings, groups[::-1]), True)
            for group in groups:
                # Without a group that more than half have, the sum is greater.
                fewer = [other for other in groups if other != group]
                self.assertIs(is_nearest(partings, fewer), group == TWENTY)
            for group in [list(group) for group in times if list(group) not in groups]:
                more = groups + [group]
                if not any(cross(group, other) for other in groups):
                    self.assertIs(is_nearest(partings, more), 2 * times[tuple(group)] == len(partings))
                else:
                    self.assertIs(is_nearest(partings, more), False)

    def test_groups_that_half_have(self):
        # HALVES and CHAIN have [2, 3] and [0, 1, 2], which cross: at most one of them.
        for many in (1, 10):
            partings = [HALVES, CHAIN] * many
            self.assertEqual(least_sum(partings), 2 * many)
            for family in ([[0, 1]], [[0, 1], [2, 3]], [[0, 1, 2], [0, 1]], [[0, 1], [0, 1, 2, 3]], CHAIN, HALVES):
                self.assertIs(is_nearest(partings, family), True)
            for family in ([], [[2, 3]], [[0, 1], [0, 1, 3]], OTHER, [[0, 1], [2, 3], [0, 1, 2]]):
                self.assertIs(is_nearest(partings, family), False)
            self.assertIs(error_of(differing, partings, [[0, 1], [2, 3], [0, 1, 2]]), Crossing)

    def test_one_parting_alone(self):
        for tree in trees_of_twenty():
            parting = parting_of(tree)
            self.assertEqual(least_sum([parting]), 0)
            self.assertIs(is_nearest([parting], parting), True)
            self.assertIs(is_nearest([parting], [group for group in parting if len(group) < 20]), True)
            self.assertIs(is_nearest([parting], parting[:18]), parting[18] == TWENTY)
            self.assertEqual(differing([parting], []), 18)

    def test_one_person_alone(self):
        for partings in ([[]], [[]] * 20):
            self.assertEqual((differing(partings, []), least_sum(partings)), (0, 0))
            self.assertIs(is_nearest(partings, []), True)
            self.assertIs(error_of(differing, partings, [[0, 1]]), InvalidGroups)
            self.assertIs(is_nearest(partings, [[0, 1]]), False)


class Wrong(unittest.TestCase):

    def test_what_is_no_list_of_partings(self):
        things = [
            [], [[]] * 21, [HALVES] * 21, [HALVES, [[0, 1]]], [[], [[0, 1]]], [HALVES, CHAIN, []], [HALVES, None],
            [HALVES, HALVES[::-1]], [HALVES[:2]], HALVES, [[[0, 2]]], (HALVES,), ([],), [()], [{}], {}, None, 0, "",
            [tuple(HALVES)], [[[0, True]]], [HALVES, [[0, 1], [0, 1, 2], [0, 3]]], {"0": HALVES}, [[HALVES]],
        ]
        calls = [(common_groups, ()), (most_groups, ()), (least_sum, ()), (groups_from, (1,)), (how_many, ([0, 1],))]
        calls += [(differing, ([],)), (is_nearest, ([],)), (is_nearest, (None,))]
        things += [[thing, HALVES] for thing in odd_things()] + [[HALVES, thing, CHAIN] for thing in odd_things()]
        for thing in things + odd_for("partings"):
            for function, given in calls:
                self.assertIs(error_of(function, thing, *given), InvalidPartings, str(thing)[:80])

    def test_any_object_is_near_or_not(self):
        for partings in ([[]], [HALVES], [HALVES, CHAIN], [parting_of(halved(TWENTY))] * 20):
            for thing in odd_things():
                self.assertIs(is_nearest(partings, thing), False)
                self.assertIs(error_of(differing, partings, thing), InvalidGroups)
        for thing in ([tuple(group) for group in HALVES], tuple(HALVES), HALVES + [[0, 1]], HALVES[:2] + [[2.0, 3]]):
            self.assertIs(is_nearest([HALVES], thing), False)
        for thing in ([[False, 1], [2, 3]], [[0, True], [2, 3]], [[0, 1], [3, 2]], [[0, 1], [2, 3], []]):
            self.assertIs(is_nearest([HALVES], thing), False)

    def test_nineteen_groups_but_not_twenty(self):
        whole = parting_of(comb(TWENTY))
        self.assertIs(is_nearest([whole], whole), True)
        self.assertIs(is_nearest([whole], whole + [[1, 2]]), False)
        self.assertIs(is_nearest([whole], whole + whole[:1]), False)
        self.assertIs(error_of(differing, [whole], whole + [[1, 2]]), InvalidGroups)
        self.assertIs(error_of(differing, [whole], whole[:18] + [[1, 2]]), Crossing)

    def test_which_ones_cross(self):
        with self.assertRaises(Crossing) as caught:
            differing([HALVES, CHAIN], [[0, 1], [2, 3], [1, 2]])
        self.assertEqual((caught.exception.first, caught.exception.second), (0, 2))


if __name__ == "__main__":
    unittest.main()
