"""Points 3, 4 and 11: shares and means over the partings with all told groups."""

import unittest
from itertools import combinations, permutations
from math import comb as chosen
from math import factorial, gcd

from tests.helpers import (
    TWENTY, all_groups, all_trees, families, mean, members, mixed, nearly_whole_of_twenty, parting_of, share, shares,
    told_of_twenty, tree_depth, trees_with,
)
from twopartings.shares import (
    depth_shares, first_shares, mean_depth, mean_groups, meet_shares, pair_shares, triple_share,
)
from twopartings.told import count_partings, group_share


def ways(units):
    """[units] of point 4."""
    found = 1
    for odd in range(3, 2 * units - 2, 2):
        found *= odd
    return found


class Facts:
    """What a tree tells, read off it once."""

    def __init__(self, tree):
        self.groups = [tuple(group) for group in parting_of(tree)]
        self.depths = [tree_depth(tree, person) for person in members(tree)]
        self.sizes = [len(group) for group in self.groups]
        self.pairs = self.sizes.count(2)
        self.first = 1 if isinstance(tree, int) else min(len(members(tree[0])), len(members(tree[1])))

    def meet(self, one, other):
        return min(len(group) for group in self.groups if one in group and other in group)

    def apart(self, one, other, third):
        return any(one in group and other in group and third not in group for group in self.groups)


class GoneThrough(unittest.TestCase):
    """All shares, by going through all partings with the told groups."""

    def check(self, persons, told, facts, triples, twos):
        for one, other, third in triples:
            expected = mean([fact.apart(one, other, third) for fact in facts])
            self.assertEqual(triple_share(persons, told, one, other, third), expected)
        for one, other in twos:
            expected = shares([fact.meet(one, other) for fact in facts], persons + 1)
            self.assertEqual(meet_shares(persons, told, one, other), expected)
        for person in range(persons):
            depths = [fact.depths[person] for fact in facts]
            self.assertEqual(depth_shares(persons, told, person), shares(depths, persons))
            self.assertEqual(mean_depth(persons, told, person), mean(depths))
        self.assertEqual(pair_shares(persons, told), shares([fact.pairs for fact in facts], persons // 2 + 1))
        for size in range(2, persons + 1):
            self.assertEqual(mean_groups(persons, told, size), mean([fact.sizes.count(size) for fact in facts]))
        self.assertEqual(first_shares(persons, told), shares([fact.first for fact in facts], persons // 2 + 1))

    def check_all(self, persons, told, facts):
        having = [fact for fact in facts if all(tuple(group) in fact.groups for group in told)]
        triples, twos = permutations(range(persons), 3), permutations(range(persons), 2)
        self.check(persons, told, having, triples, twos)

    def test_all_families_of_up_to_five(self):
        for persons in range(2, 6):
            facts = [Facts(tree) for tree in all_trees(list(range(persons)))]
            for seed, family in enumerate(families(persons)):
                self.check_all(persons, mixed(family, seed), facts)

    def test_some_families_of_six_and_seven(self):
        facts = [Facts(tree) for tree in all_trees(list(range(6)))]
        for seed, family in list(enumerate(families(6)))[::509]:
            self.check_all(6, mixed(family, seed), facts)
        for told in ([], [[0, 1]], [[1, 4, 6], [2, 3]], [[0, 2, 3, 5, 6]]):
            facts = [Facts(tree) for tree in trees_with(TWENTY[:7], told)]
            self.check(7, told, facts, [(0, 1, 2), (2, 3, 0), (6, 4, 1)], [(0, 1), (2, 3), (6, 1)])

    def test_twenty_persons(self):
        triples = [(0, 1, 2), (7, 19, 3), (4, 11, 18), (18, 17, 16), (5, 15, 10)]
        twos = [(0, 1), (19, 0), (3, 12), (9, 10), (17, 16)]
        for told in [told for told in nearly_whole_of_twenty() if len(trees_with(TWENTY, told)) < 100][1::3]:
            facts = [Facts(tree) for tree in trees_with(TWENTY, told)]
            self.check(20, told, facts, triples, twos)


class NoneTold(unittest.TestCase):
    """Twenty persons and fewer without told groups, by formulas other than the program's."""

    def test_triples(self):
        for persons in range(3, 21):
            for told in ([], [TWENTY[:persons]]):
                for triple in ((0, 1, 2), (2, 0, 1), (persons - 1, 0, 1), (1, persons - 1, 0)):
                    self.assertEqual(triple_share(persons, told, *triple), (1, 3))

    def test_depths(self):
        for persons in range(2, 21):
            expected = [(0, 1)]
            for depth in range(1, persons):
                left = persons - 1 - depth
                many = depth * factorial(persons - 2 + left) // (factorial(left) * 2 ** left)
                expected.append(share(many, ways(persons)))
            for told in ([], [TWENTY[:persons]]):
                for person in (0, 1, persons - 1):
                    self.assertEqual(depth_shares(persons, told, person), expected)

    def test_mean_depths(self):
        for persons in range(1, 21):
            middle = chosen(2 * persons - 2, persons - 1)
            expected = share(4 ** (persons - 1) - middle, middle)
            for person in (0, persons // 2, persons - 1):
                self.assertEqual(mean_depth(persons, [], person), expected)

    def test_least_groups(self):
        for persons in range(2, 21):
            expected = [(0, 1), (0, 1)]
            for size in range(2, persons + 1):
                apart = factorial(size - 2) * 2 ** (size - 2)
                many = chosen(persons - 2, size - 2) * apart * ways(persons - size + 1)
                expected.append(share(many, ways(persons)))
            for told in ([], [TWENTY[:persons]]):
                for one, other in ((0, 1), (persons - 1, 0)):
                    self.assertEqual(meet_shares(persons, told, one, other), expected)

    def test_groups_of_two(self):
        for persons in range(2, 21):
            expected = [(0, 1)]
            for pairs in range(1, persons // 2 + 1):
                many = factorial(persons) * factorial(persons - 2) // (
                    factorial(persons - 2 * pairs) * factorial(pairs) * factorial(pairs - 1) * 2 ** (2 * pairs - 1)
                )
                expected.append(share(many, ways(persons)))
            for told in ([], [TWENTY[:persons]]):
                self.assertEqual(pair_shares(persons, told), expected)

    def test_groups_of_a_size(self):
        for persons in range(2, 21):
            for size in range(2, persons + 1):
                expected = share(chosen(persons, size) * ways(size) * ways(persons - size + 1), ways(persons))
                for told in ([], [TWENTY[:persons]]):
                    self.assertEqual(mean_groups(persons, told, size), expected)

    def test_the_lesser_part(self):
        for persons in range(2, 21):
            expected = [(0, 1)]
            for size in range(1, persons // 2 + 1):
                twice = 2 if size < persons - size else 1
                many = twice * chosen(persons, size) * ways(size) * ways(persons - size)
                expected.append(share(many, 2 * ways(persons)))
            for told in ([], [TWENTY[:persons]]):
                self.assertEqual(first_shares(persons, told), expected)


class ManyTold(unittest.TestCase):
    """Twenty persons with told groups of all kinds: the shares that hold together."""

    def sum_of(self, fractions):
        bottom = 1
        for _, whole in fractions:
            bottom = bottom * whole // gcd(bottom, whole)
        return share(sum(top * bottom // whole for top, whole in fractions), bottom)

    def test_all_shares_of_a_list_are_one_in_all(self):
        for told in told_of_twenty():
            for found in (
                [depth_shares(20, told, person) for person in (0, 5, 19)] + [pair_shares(20, told)] +
                [first_shares(20, told)] + [meet_shares(20, told, *two) for two in ((0, 1), (19, 4), (10, 11))]
            ):
                self.assertEqual(self.sum_of(found), (1, 1))

    def test_fractions_have_no_common_divisor(self):
        for told in told_of_twenty()[::5]:
            found = depth_shares(20, told, 7) + pair_shares(20, told) + first_shares(20, told)
            found += meet_shares(20, told, 3, 8) + [mean_depth(20, told, 7), triple_share(20, told, 3, 8, 7)]
            found += [mean_groups(20, told, size) for size in range(2, 21)]
            for item in found:
                self.assertIs(type(item), tuple)
                self.assertEqual([type(number) for number in item], [int, int])
                self.assertEqual(gcd(*item), 1)
                self.assertTrue(item[0] >= 0 and item[1] >= 1)

    def test_as_many_items_as_the_point_says(self):
        for told in told_of_twenty()[::5]:
            self.assertEqual(len(depth_shares(20, told, 19)), 20)
            self.assertEqual(len(meet_shares(20, told, 19, 0)), 21)
            self.assertEqual(len(pair_shares(20, told)), 11)
            self.assertEqual(len(first_shares(20, told)), 11)

    def test_one_of_three_is_apart(self):
        for told in told_of_twenty():
            for one, other, third in ((0, 1, 2), (3, 17, 9), (19, 18, 0), (4, 5, 6)):
                turns = ((one, other, third), (other, third, one), (third, one, other))
                self.assertEqual(self.sum_of([triple_share(20, told, *turn) for turn in turns]), (1, 1))
                self.assertEqual(triple_share(20, told, one, other, third), triple_share(20, told, other, one, third))

    def test_groups_of_two_are_least_groups(self):
        for told in told_of_twenty()[::3]:
            found = [meet_shares(20, told, one, other)[2] for one, other in combinations(TWENTY, 2)]
            self.assertEqual(self.sum_of(found), mean_groups(20, told, 2))
            expected = [group_share(20, told, list(two)) for two in combinations(TWENTY, 2)]
            self.assertEqual(found, expected)
            pairs = [(many * top, bottom) for many, (top, bottom) in enumerate(pair_shares(20, told))]
            self.assertEqual(self.sum_of(pairs), mean_groups(20, told, 2))

    def test_depths_and_sizes_of_groups(self):
        for told in told_of_twenty():
            means = [mean_groups(20, told, size) for size in range(2, 21)]
            self.assertEqual(self.sum_of(means), (19, 1))
            weighed = [(size * top, bottom) for size, (top, bottom) in enumerate(means, start=2)]
            self.assertEqual(self.sum_of(weighed), self.sum_of([mean_depth(20, told, person) for person in TWENTY]))

    def test_the_mean_depth_is_that_of_the_shares(self):
        for told in told_of_twenty():
            for person in (0, 8, 19):
                found = depth_shares(20, told, person)
                expected = self.sum_of([(depth * top, bottom) for depth, (top, bottom) in enumerate(found)])
                self.assertEqual(mean_depth(20, told, person), expected)

    def test_group_shares_make_the_mean_number(self):
        for persons in range(2, 6):
            for told in families(persons):
                for size in range(2, persons + 1):
                    groups = [group for group in all_groups(persons) if len(group) == size]
                    expected = self.sum_of([group_share(persons, told, group) for group in groups])
                    self.assertEqual(mean_groups(persons, told, size), expected)


class Edges(unittest.TestCase):

    def test_one_person(self):
        self.assertEqual(depth_shares(1, [], 0), [(1, 1)])
        self.assertEqual(mean_depth(1, [], 0), (0, 1))
        self.assertEqual(pair_shares(1, []), [(1, 1)])
        self.assertEqual(first_shares(1, []), [(1, 1)])

    def test_two_persons(self):
        for told in ([], [[0, 1]]):
            for person in (0, 1):
                self.assertEqual(depth_shares(2, told, person), [(0, 1), (1, 1)])
                self.assertEqual(mean_depth(2, told, person), (1, 1))
            self.assertEqual(meet_shares(2, told, 1, 0), [(0, 1), (0, 1), (1, 1)])
            self.assertEqual(pair_shares(2, told), [(0, 1), (1, 1)])
            self.assertEqual(mean_groups(2, told, 2), (1, 1))
            self.assertEqual(first_shares(2, told), [(0, 1), (1, 1)])

    def test_three_persons(self):
        self.assertEqual(triple_share(3, [], 2, 0, 1), (1, 3))
        self.assertEqual(triple_share(3, [[0, 2]], 2, 0, 1), (1, 1))
        self.assertEqual(triple_share(3, [[0, 2]], 2, 1, 0), (0, 1))
        self.assertEqual(triple_share(3, [[0, 2]], 1, 2, 0), (0, 1))
        self.assertEqual(pair_shares(3, []), [(0, 1), (1, 1)])
        self.assertEqual(first_shares(3, []), [(0, 1), (1, 1)])

    def test_the_example_of_four_persons(self):
        self.assertEqual(depth_shares(4, [], 2), [(0, 1), (1, 5), (2, 5), (2, 5)])
        self.assertEqual(mean_depth(4, [], 2), (11, 5))
        self.assertEqual(meet_shares(4, [], 3, 1), [(0, 1), (0, 1), (1, 5), (4, 15), (8, 15)])
        self.assertEqual(pair_shares(4, []), [(0, 1), (4, 5), (1, 5)])
        self.assertEqual(first_shares(4, []), [(0, 1), (4, 5), (1, 5)])
        self.assertEqual([mean_groups(4, [], size) for size in (2, 3, 4)], [(6, 5), (4, 5), (1, 1)])
        self.assertEqual(count_partings(4), 15)

    def test_all_groups_told(self):
        told = [[0, 1], [0, 1, 2, 3], [2, 3]]
        self.assertEqual(depth_shares(4, told, 0), [(0, 1), (0, 1), (1, 1), (0, 1)])
        self.assertEqual(meet_shares(4, told, 0, 2), [(0, 1), (0, 1), (0, 1), (0, 1), (1, 1)])
        self.assertEqual(pair_shares(4, told), [(0, 1), (0, 1), (1, 1)])
        self.assertEqual(first_shares(4, told), [(0, 1), (0, 1), (1, 1)])
        self.assertEqual([mean_groups(4, told, size) for size in (2, 3, 4)], [(2, 1), (0, 1), (1, 1)])
        self.assertEqual(triple_share(4, told, 0, 1, 3), (1, 1))


if __name__ == "__main__":
    unittest.main()
