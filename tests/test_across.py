"""Points 3, 4 and 9 to 15 together: who leaves, several partings, distances, families and histories."""

import unittest
from itertools import combinations, product

from tests.helpers import (
    TWENTY, all_groups, families, halved, mixed, parting_of, share, told_of_twenty, trees_of_twenty,
)
from twopartings.comings import coming_of, parting_by
from twopartings.distances import (
    agreeing, an_agreeing, at_distances, distance, exchanged, neighbours, shows_agreeing,
)
from twopartings.families import all_histories, family_counts, histories, history_share, is_family
from twopartings.leaving import (
    coming_without, entered, is_traceless, traceless, traceless_counts, traceless_share, without,
)
from twopartings.numbers import nth_parting, nth_with, parting_index
from twopartings.partings import cut_to, parts_of
from twopartings.several import (
    common_groups, differing, groups_from, how_many, is_nearest, least_sum, most_groups,
)
from twopartings.shares import mean_groups, triple_share
from twopartings.told import count_partings, count_with, crossing, group_share, share_with

NAMES = [(7 * person + 3) % 20 for person in TWENTY]


def every_parting(persons):
    return [nth_parting(persons, index) for index in range(count_partings(persons))]


def renamed(groups, names):
    return sorted(sorted(names[person] for person in group) for group in groups)


def partings_of_twenty():
    return [parting_of(tree) for tree in trees_of_twenty()]


def chunks(partings):
    """The partings in lists of at most twenty."""
    return [partings[at:at + 20] for at in range(0, len(partings), 20)]


class Leaving(unittest.TestCase):

    def test_as_many_partings_lead_to_each_one_of_the_others(self):
        for persons in range(2, 7):
            for person in range(persons):
                found = [parting_index(without(parting, person)) for parting in every_parting(persons)]
                others = count_partings(persons - 1)
                self.assertEqual([found.count(at) for at in range(others)], [2 * persons - 3] * others)

    def test_who_leaves_changes_no_share_of_the_others(self):
        for persons in (4, 5):
            for person in range(persons):
                left = [without(parting, person) for parting in every_parting(persons)]
                for group in all_groups(persons - 1):
                    having = len([parting for parting in left if group in parting])
                    self.assertEqual(share(having, len(left)), share_with(persons - 1, [group]))

    def test_who_leaves_changes_no_told_share_of_the_others(self):
        for told in told_of_twenty()[::3]:
            person = max(TWENTY, key=lambda other: sum(other in group for group in told))
            kept = [other for other in TWENTY if other != person]
            groups = {tuple(kept.index(other) for other in group if other != person) for group in told}
            left = [list(group) for group in sorted(groups) if len(group) > 1]
            self.assertIs(is_family(19, left), True)
            for one, other, third in ((0, 1, 2), (17, 3, 9), (18, 12, 5)):
                before = [kept[one], kept[other], kept[third]]
                self.assertEqual(triple_share(19, left, one, other, third), triple_share(20, told, *before))
            # One parting with the told groups tells that those who stay have what is left of them.
            parting = without(nth_with(20, told, count_with(20, told) // 2), person)
            self.assertTrue(all(group in parting for group in left))

    def test_leaving_in_any_sequence_is_cutting(self):
        for seed, parting in enumerate(partings_of_twenty()):
            gone = sorted(mixed(TWENTY, seed)[:9])
            left, coming = parting, coming_of(parting)
            for person in gone[::-1]:
                left, coming = without(left, person), coming_without(coming, person)
            self.assertEqual(left, cut_to(parting, [person for person in TWENTY if person not in gone]))
            self.assertEqual(parting_by(coming), left)

    def test_who_enters_again_and_again(self):
        for parting in partings_of_twenty():
            made = []
            for item in coming_of(parting):
                made = entered(made, item)
                self.assertEqual(parting_index(made), parting_index(cut_to(parting, TWENTY[:len(made) + 1])))
            self.assertEqual(made, parting)

    def test_shares_and_counts_of_those_without_a_trace(self):
        for persons in range(1, 7):
            every = every_parting(persons)
            free = [traceless(parting) for parting in every]
            self.assertEqual(traceless_counts(persons), [list(map(len, free)).count(at) for at in range(persons + 1)])
            for person in range(persons):
                many = len([parting for parting in every if is_traceless(parting, person)])
                self.assertEqual(traceless_share(persons, person), share(many, len(every)))


class Several(unittest.TestCase):

    def test_two_partings_and_their_distance(self):
        pairs = list(product(every_parting(5), repeat=2))[::7] + list(product(partings_of_twenty(), repeat=2))
        for one, other in pairs:
            apart = distance(one, other)
            self.assertEqual(distance(other, one), apart)
            self.assertEqual(len(common_groups([one, other])), len(one) - apart)
            self.assertEqual(most_groups([one, other]), common_groups([one, other]))
            self.assertEqual(differing([one], other), 2 * apart)
            self.assertEqual(least_sum([one, other]), 2 * apart)
            self.assertIs(is_nearest([one, other], one), True)
            self.assertIs(is_nearest([one, other], other), True)
            self.assertIs(is_nearest([one], other), apart == 0)

    def test_sums_are_sums_of_distances(self):
        partings = partings_of_twenty()
        for many in (partings, partings[:3], partings[4:5] * 20, partings[:2] * 9):
            for parting in partings[::3] + neighbours(partings[0])[:5]:
                self.assertEqual(differing(many, parting), 2 * sum(distance(one, parting) for one in many))
            for number in range(1, len(many) + 1):
                for group in groups_from(many, number):
                    self.assertGreaterEqual(how_many(many, group), number)

    def test_groups_that_at_least_a_number_have(self):
        every = every_parting(4)
        self.assertEqual(groups_from(every, 15), [[0, 1, 2, 3]])
        self.assertEqual(groups_from(every, 3), sorted(all_groups(4)))
        self.assertEqual(groups_from(every, 4), [[0, 1, 2, 3]])
        for group in all_groups(4):
            self.assertEqual(share(how_many(every, group), 15), share_with(4, [group]))

    def test_mean_numbers_of_groups(self):
        every = every_parting(5)
        for size in range(2, 6):
            had = sum(how_many(part, group) for part in chunks(every) for group in all_groups(5) if len(group) == size)
            self.assertEqual(mean_groups(5, [], size), share(had, len(every)))

    def test_neighbours_have_the_parting_in_the_middle(self):
        for parting in partings_of_twenty()[::3]:
            # Each of 18 groups is lacking in two of 36 neighbours; of the first 18, no group lacks in more than two.
            beside = neighbours(parting)
            self.assertEqual(most_groups(beside[:18]), parting)
            self.assertIs(is_nearest(beside[:18], parting), True)
            self.assertEqual(least_sum(beside[:18]), 2 * 18)

    def test_families_of_most_groups_count_partings(self):
        partings = partings_of_twenty()
        for many in (partings, partings[:3], partings[:2], partings[:1], [partings[0], partings[0], partings[3]]):
            self.assertIs(is_family(20, most_groups(many)), True)
            self.assertIsNone(crossing(20, common_groups(many)))
            self.assertGreaterEqual(count_with(20, common_groups(many)), len({str(parting) for parting in many}))


class Distances(unittest.TestCase):

    def test_neighbours_and_exchanges(self):
        for persons in range(1, 6):
            for parting in every_parting(persons):
                beside = neighbours(parting)
                counts = at_distances(parting)
                self.assertEqual(len(beside), (counts + [0])[1])
                self.assertEqual(sum(counts), count_partings(persons))
                for other in beside:
                    self.assertIn(parting, neighbours(other))
                    self.assertGreaterEqual(agreeing(parting, other), persons - 1)

    def test_an_exchange_keeps_all_but_one_part_alike(self):
        for parting in partings_of_twenty():
            for group in [group for group in parting if len(group) < 20][::4]:
                other = exchanged(parting, group, group[0])
                for part in parts_of(parting, group):
                    stay = [person for person in TWENTY if person not in part]
                    self.assertIs(shows_agreeing(parting, other, stay), True)
                    self.assertGreaterEqual(agreeing(parting, other), len(stay))

    def test_who_leaves_brings_partings_no_farther_apart(self):
        for one, other in list(combinations(partings_of_twenty(), 2))[::5]:
            for person in (0, 7, 19):
                left, right = without(one, person), without(other, person)
                self.assertIn(agreeing(one, other) - agreeing(left, right), (0, 1))

    def test_agreeing_persons_stay_when_all_others_leave(self):
        for one, other in list(combinations(partings_of_twenty(), 2))[::3]:
            some = an_agreeing(one, other)
            left, right = one, other
            for person in TWENTY[::-1]:
                if person not in some:
                    left, right = without(left, person), without(right, person)
            self.assertEqual(left, right)
            self.assertEqual(left, cut_to(one, some))
            self.assertEqual(agreeing(left, right), len(some))

    def test_shares_of_partings_without_a_group_in_common(self):
        # Over all partings, the groups that one of them shares come to the sum of their shares.
        for parting in partings_of_twenty()[::4]:
            total, shared = count_partings(20), 0
            for group in parting:
                top, bottom = group_share(20, [], group)
                shared += top * total // bottom
            counts = at_distances(parting)
            self.assertEqual(sum((19 - apart) * many for apart, many in enumerate(counts)), shared)


class Histories(unittest.TestCase):

    def test_histories_of_all_partings(self):
        for persons in range(1, 7):
            every = every_parting(persons)
            self.assertEqual(sum(histories(parting) for parting in every), all_histories(persons))
            for group in all_groups(persons):
                having = sum(histories(parting) for parting in every if group in parting)
                self.assertEqual(history_share(persons, group), share(having, all_histories(persons)))

    def test_who_enters_has_its_part_in_the_histories(self):
        for parting in partings_of_twenty():
            for person in (0, 5, 19):
                left = without(parting, person)
                self.assertLessEqual(histories(left), histories(parting))

    def test_families_and_partings(self):
        for persons in range(1, 7):
            self.assertEqual(family_counts(persons)[-1], len(every_parting(persons)))
            every = families(persons)
            whole = [told for told in every if persons == 1 or list(range(persons)) in told]
            self.assertEqual(sum(family_counts(persons)), len(whole))
            for told in every[::11]:
                self.assertIs(is_family(persons, told), True)
                self.assertGreater(count_with(persons, told), 0)


class Renamed(unittest.TestCase):

    def test_what_does_not_depend_on_names(self):
        partings = partings_of_twenty()
        for one, other in zip(partings, partings[1:] + partings[:1]):
            left, right = renamed(one, NAMES), renamed(other, NAMES)
            self.assertEqual(distance(left, right), distance(one, other))
            self.assertEqual(agreeing(left, right), agreeing(one, other))
            self.assertEqual(at_distances(left), at_distances(one))
            self.assertEqual(histories(left), histories(one))
            self.assertEqual(least_sum([left, right, left]), least_sum([one, other, one]))
            self.assertEqual(differing([left], right), differing([one], other))
            some = sorted(NAMES[person] for person in an_agreeing(one, other))
            self.assertIs(shows_agreeing(left, right, some), True)

    def test_what_goes_along_with_names(self):
        partings = partings_of_twenty()
        others = [renamed(parting, NAMES) for parting in partings]
        self.assertEqual(common_groups(others), renamed(common_groups(partings), NAMES))
        for first in range(0, len(partings) - 3, 2):
            some, named = partings[first:first + 3], others[first:first + 3]
            self.assertEqual(most_groups(named), renamed(most_groups(some), NAMES))
            self.assertEqual(groups_from(named, 1), renamed(groups_from(some, 1), NAMES))
            self.assertIs(is_nearest(named, renamed(most_groups(some), NAMES)), True)
        for one, other in zip(partings, others):
            self.assertEqual(neighbours(other), sorted(renamed(beside, NAMES) for beside in neighbours(one)))
            for group in [group for group in one if len(group) < 20][::3]:
                expected = renamed(exchanged(one, group, group[-1]), NAMES)
                self.assertEqual(exchanged(other, renamed([group], NAMES)[0], NAMES[group[-1]]), expected)
            for person in (0, 8, 19):
                names = [name - (name > NAMES[person]) for name in NAMES]
                left = renamed(without(one, person), names[:person] + names[person + 1:])
                self.assertEqual(without(other, NAMES[person]), left)

    def test_twenty_equal_partings(self):
        parting = parting_of(halved(TWENTY))
        self.assertEqual(common_groups([parting] * 20), parting)
        self.assertEqual(groups_from([parting] * 20, 20), parting)
        self.assertEqual(least_sum([parting] * 20), 0)


if __name__ == "__main__":
    unittest.main()
