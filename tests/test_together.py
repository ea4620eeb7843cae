"""Point 4 over several files together: who leaves and comes, names, told groups, parts inside and outside."""

import unittest
from itertools import combinations

from tests.helpers import TWENTY, all_groups, families, mixed, parting_of, share, told_of_twenty, trees_of_twenty
from twopartings.comings import coming_of, parting_by
from twopartings.numbers import (
    index_by_pairs, index_with, nth_by_pairs, nth_parting, nth_with, parting_index,
)
from twopartings.pairings import pairs_of, parting_by_pairs
from twopartings.partings import cut_to, depth_of, least_group, parts_of
from twopartings.shares import (
    depth_shares, first_shares, mean_depth, mean_groups, meet_shares, pair_shares, triple_share,
)
from twopartings.told import count_partings, count_with, crossing, group_share, share_with, units_of

NAMES = [(7 * person + 3) % 20 for person in TWENTY]
TRIPLES = [(0, 1, 2), (3, 17, 9), (19, 18, 0), (4, 15, 16), (12, 11, 13)]


def told_cut_to(told, some):
    """The told groups cut to some persons, those of two or more, each once."""
    meetings = {tuple(some.index(person) for person in group if person in some) for group in told}
    return [list(group) for group in sorted(meetings) if len(group) > 1]


def renamed(group, names):
    return sorted(names[person] for person in group)


def certain(number, many):
    """The shares of what is certain to be this number."""
    return [(1, 1) if at == number else (0, 1) for at in range(many)]


def times(one, other):
    return share(one[0] * other[0], one[1] * other[1])


class LeavingAndComing(unittest.TestCase):

    def test_who_leaves_changes_no_triple_of_the_others(self):
        for seed, told in enumerate(told_of_twenty()):
            leaving = (7 * seed + 5) % 20
            some = [person for person in TWENTY if person != leaving]
            left = told_cut_to(told, some)
            self.assertIsNone(crossing(19, left))
            for triple in TRIPLES:
                if leaving not in triple:
                    places = [some.index(person) for person in triple]
                    self.assertEqual(triple_share(19, left, *places), triple_share(20, told, *triple))

    def test_who_comes_multiplies_by_the_places(self):
        # Who comes into a told group, and so into all above it, finds one place for each unit and each group of units.
        for told in told_of_twenty():
            some = TWENTY[:19]
            left = told_cut_to(told, some)
            for group in left + [some]:
                above = [other for other in left if set(group) <= set(other)]
                more = [other + [19] if other in above else other for other in left]
                places = 2 * len(units_of(19, left, group)) - 1
                self.assertEqual(count_with(20, more), places * count_with(19, left))

    def test_as_many_partings_are_alike_to_any_one_of_fewer_persons(self):
        partings = [nth_parting(6, index) for index in range(945)]
        for many, alike in ((2, 945), (3, 5 * 7 * 9), (4, 7 * 9), (5, 9), (6, 1)):
            for some in (TWENTY[:many], [0, 5, 4, 1, 3, 2][:many]):
                found = [parting_index(cut_to(parting, sorted(some))) for parting in partings]
                self.assertEqual([found.count(at) for at in range(count_partings(many))], [alike] * (945 // alike))

    def test_the_first_persons_have_the_first_digits(self):
        for tree in trees_of_twenty():
            parting = parting_of(tree)
            for many in (1, 2, 7, 19):
                first = cut_to(parting, TWENTY[:many])
                digits = parting_index(parting) * count_partings(many) // count_partings(20)
                self.assertEqual(digits, parting_index(first))

    def test_no_item_behind_a_person_is_this_person_as_result_5_tells(self):
        comings = [coming_of(nth_parting(6, index)) for index in range(945)]
        for person in range(1, 6):
            free = [coming for coming in comings if not {person, -person} & set(coming[person:])]
            self.assertEqual(share(len(free), 945), share(2 * person - 1, 9))


class Renamed(unittest.TestCase):

    def test_what_does_not_depend_on_names(self):
        for told in told_of_twenty():
            other = [renamed(group, NAMES) for group in told]
            self.assertEqual(count_with(20, told), count_with(20, other))
            self.assertEqual(pair_shares(20, told), pair_shares(20, other))
            self.assertEqual(first_shares(20, told), first_shares(20, other))
            for size in (2, 3, 10, 19):
                self.assertEqual(mean_groups(20, told, size), mean_groups(20, other, size))

    def test_what_goes_along_with_names(self):
        for told in told_of_twenty():
            other = [renamed(group, NAMES) for group in told]
            for group in told + [TWENTY]:
                units = sorted(renamed(unit, NAMES) for unit in units_of(20, told, group))
                self.assertEqual(units_of(20, other, renamed(group, NAMES)), units)
            for one, two, three in TRIPLES:
                named = [NAMES[person] for person in (one, two, three)]
                self.assertEqual(triple_share(20, told, one, two, three), triple_share(20, other, *named))
                self.assertEqual(meet_shares(20, told, one, two), meet_shares(20, other, *named[:2]))
                self.assertEqual(meet_shares(20, told, one, two), meet_shares(20, told, two, one))
                self.assertEqual(depth_shares(20, told, one), depth_shares(20, other, named[0]))
                group, group_named = sorted([one, two, three]), sorted(named)
                self.assertEqual(group_share(20, told, group), group_share(20, other, group_named))

    def test_crossing_groups_cross_by_any_names(self):
        told = [[0, 1], [2, 3], [1, 2], [3, 19]]
        self.assertEqual(crossing(20, [renamed(group, NAMES) for group in told]), crossing(20, told))


class OneAfterAnother(unittest.TestCase):

    def test_shares_of_told_groups_multiply(self):
        for told in told_of_twenty():
            found = (1, 1)
            for at, group in enumerate(told):
                found = times(found, group_share(20, told[:at], group))
                self.assertEqual(share_with(20, told[:at + 1]), found)

    def test_a_group_more_is_a_share_of_the_count(self):
        for told in told_of_twenty():
            for group in ([0, 1], TWENTY[3:9], TWENTY[1:], [18, 19], TWENTY[::3]):
                if group not in told and len(told) < 19:
                    more = share(count_with(20, told + [group]), count_with(20, told))
                    self.assertEqual(group_share(20, told, group), more)

    def test_a_group_told_last_is_as_if_told_first(self):
        for told in told_of_twenty()[3::4]:
            if 1 < len(told) < 19:
                self.assertEqual(first_shares(20, told), first_shares(20, told[1:] + told[:1]))
                self.assertEqual(pair_shares(20, told), pair_shares(20, told[::-1]))
                self.assertEqual(depth_shares(20, told, 6), depth_shares(20, mixed(told, 4), 6))

    def test_depths_by_a_group_more(self):
        # Those with the group and those without it are all there are, each by its share.
        for told in families(5)[::7]:
            for group in all_groups(5):
                likely = group_share(5, told, group)
                if group in told or likely in ((0, 1), (1, 1)):
                    continue
                more = told + [group]
                for index in range(count_with(5, more)):
                    parting = nth_with(5, more, index)
                    self.assertIn(group, parting)
                    self.assertEqual(nth_with(5, told, index_with(parting, told)), parting)
                having = [nth_with(5, told, index) for index in range(count_with(5, told))]
                self.assertEqual([parting for parting in having if group in parting], [
                    nth_with(5, more, index) for index in range(count_with(5, more))
                ])


class OneParting(unittest.TestCase):

    def partings(self):
        small = [nth_parting(persons, index) for persons in range(1, 6) for index in range(count_partings(persons))]
        return small + [parting_of(tree) for tree in trees_of_twenty()]

    def test_its_lists_and_indices(self):
        for parting in self.partings():
            persons = len(parting) + 1
            self.assertEqual(parting_by(coming_of(parting)), parting)
            self.assertEqual(parting_by_pairs(pairs_of(parting)), parting)
            self.assertEqual(nth_parting(persons, parting_index(parting)), parting)
            self.assertEqual(nth_by_pairs(persons, index_by_pairs(parting)), parting)
            self.assertEqual(nth_with(persons, parting, 0), parting)
            self.assertEqual(index_with(parting, parting), 0)
            self.assertEqual(index_with(parting, []), parting_index(parting))

    def test_with_all_its_groups_told_all_is_certain(self):
        for parting in self.partings():
            persons = len(parting) + 1
            self.assertEqual(count_with(persons, parting), 1)
            for person in range(persons):
                depth = depth_of(parting, person)
                self.assertEqual(depth_shares(persons, parting, person), certain(depth, persons))
                self.assertEqual(mean_depth(persons, parting, person), (depth, 1))
            for one, other in list(combinations(range(persons), 2))[::5]:
                least = len(least_group(parting, one, other))
                self.assertEqual(meet_shares(persons, parting, one, other), certain(least, persons + 1))
            sizes = [len(group) for group in parting]
            self.assertEqual(pair_shares(persons, parting), certain(sizes.count(2), persons // 2 + 1))
            for size in range(2, persons + 1):
                self.assertEqual(mean_groups(persons, parting, size), (sizes.count(size), 1))
            for group in parting:
                self.assertEqual(units_of(persons, parting, group), parts_of(parting, group))
                self.assertEqual(group_share(persons, parting, group), (1, 1))
            if persons > 1:
                lesser = min(len(part) for part in parts_of(parting, list(range(persons))))
                self.assertEqual(first_shares(persons, parting), certain(lesser, persons // 2 + 1))
            for one, other, third in list(combinations(range(persons), 3))[::11]:
                apart = int(third not in least_group(parting, one, other))
                self.assertEqual(triple_share(persons, parting, one, other, third), (apart, 1))


class InsideAndOutside(unittest.TestCase):

    def split(self, told, group):
        """The told groups within a group, and those outside with the group as its first person."""
        inner = [other for other in told if set(other) < set(group)]
        outer = [person for person in TWENTY if person not in group[1:]]
        beyond = [other for other in told if not set(other) <= set(group)]
        return told_cut_to(inner, group), outer, told_cut_to(beyond, outer)

    def test_counts_inside_and_outside_multiply(self):
        for told in told_of_twenty():
            for group in told:
                inner, outer, beyond = self.split(told, group)
                product = count_with(len(group), inner) * count_with(len(outer), beyond)
                self.assertEqual(count_with(20, told), product)

    def test_shares_of_groups_within_a_told_group(self):
        for told in told_of_twenty():
            for group in told:
                inner, _, _ = self.split(told, group)
                for more in (group[:2], group[-2:], group[1:], group[::2], group):
                    if len(more) > 1:
                        within = [group.index(person) for person in more]
                        self.assertEqual(group_share(20, told, more), group_share(len(group), inner, within))

    def test_shares_of_groups_around_and_outside(self):
        for told in told_of_twenty():
            for group in told:
                _, outer, beyond = self.split(told, group)
                rest = [person for person in TWENTY if person not in group]
                if len(rest) > 2:
                    for more in (sorted(group + rest[:1]), sorted(group + rest[1:]), rest[:2], rest):
                        met = [at for at, person in enumerate(outer) if person in more]
                        self.assertEqual(group_share(20, told, more), group_share(len(outer), beyond, met))

    def test_least_groups_and_triples_within(self):
        for told in told_of_twenty()[::2]:
            for group in told:
                inner, _, _ = self.split(told, group)
                many = len(group)
                within = meet_shares(many, inner, 0, many - 1)
                self.assertEqual(meet_shares(20, told, group[0], group[-1]), within + [(0, 1)] * (20 - many))
                if many > 2:
                    expected = triple_share(many, inner, 0, 1, 2)
                    self.assertEqual(triple_share(20, told, group[0], group[1], group[2]), expected)
                for person in [person for person in (0, 9, 19) if person not in group]:
                    self.assertEqual(triple_share(20, told, group[0], group[1], person), (1, 1))
                    self.assertEqual(triple_share(20, told, group[0], person, group[1]), (0, 1))

    def test_depths_add_up(self):
        for told in told_of_twenty()[::2]:
            for group in told:
                inner, outer, beyond = self.split(told, group)
                inside = depth_shares(len(group), inner, 0)
                outside = depth_shares(len(outer), beyond, outer.index(group[0]))
                bottom = count_with(20, told)
                found = [0] * (len(inside) + len(outside))
                for low, one in enumerate(inside):
                    for high, other in enumerate(outside):
                        top, whole = times(one, other)
                        found[low + high] += top * bottom // whole
                expected = [share(number, bottom) for number in (found + [0] * 20)[:20]]
                self.assertEqual(depth_shares(20, told, group[0]), expected)


if __name__ == "__main__":
    unittest.main()
