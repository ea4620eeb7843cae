"""Points 4 and 10: partings and their indices, in the sequence of coming lists and in that of pairs."""

import unittest
from itertools import product

from tests.helpers import (
    TWENTY, comb, error_of, families, mixed, nearly_whole_of_twenty, parting_of, told_of_twenty, tree_by,
    trees_of_twenty, trees_with,
)
from twopartings.comings import coming_of, parting_by
from twopartings.errors import Crossing, InvalidGroups, InvalidIndex, InvalidParting, InvalidPersons, Lacking
from twopartings.numbers import (
    index_by_pairs, index_with, next_parting, nth_by_pairs, nth_parting, nth_with, parting_index,
)
from twopartings.pairings import pairs_of
from twopartings.partings import is_parting
from twopartings.told import count_partings, count_with

HALVES = [[0, 1], [0, 1, 2, 3], [2, 3]]
LEAST = [-at for at in range(19)]


def in_sequence(persons):
    """All partings of so many persons, as their coming lists ascend."""
    items = [range(-at, at + 1) for at in range(persons - 1)]
    return [parting_of(tree_by(coming)) for coming in product(*items)]


def some_indices(many):
    """The first and the last index of so many, and some between."""
    found = [0, 1, 2, many // 3, many // 2, many // 2 + 1, many * 5 // 7, many - 3, many - 2, many - 1]
    return sorted({index for index in found if 0 <= index < many})


class AllPartings(unittest.TestCase):

    def test_up_to_six_persons(self):
        for persons in range(1, 7):
            partings = in_sequence(persons)
            self.assertEqual(len(partings), count_partings(persons))
            for index, parting in enumerate(partings):
                self.assertEqual(nth_parting(persons, index), parting)
                self.assertEqual(parting_index(parting), index)

    def test_the_next_one(self):
        for persons in range(1, 7):
            partings = in_sequence(persons)
            for parting, following in zip(partings, partings[1:] + [None]):
                self.assertEqual(next_parting(parting), following)

    def test_the_first_and_the_last_of_each_number_of_persons(self):
        for persons in range(1, 21):
            last = count_partings(persons) - 1
            first_one, last_one = parting_by(LEAST[:persons - 1]), parting_by(TWENTY[:persons - 1])
            self.assertEqual(nth_parting(persons, 0), first_one)
            self.assertEqual(nth_parting(persons, last), last_one)
            self.assertEqual((parting_index(first_one), parting_index(last_one)), (0, last))
            self.assertIsNone(next_parting(last_one))
            for index in (-1, last + 1, last + 2, -1 - last, 10 ** 30, -(10 ** 30)):
                self.assertIs(error_of(nth_parting, persons, index), InvalidIndex)

    def test_twenty_persons(self):
        for index in some_indices(count_partings(20)):
            parting = nth_parting(20, index)
            self.assertIs(is_parting(parting), True)
            self.assertEqual(parting_index(parting), index)
            if index + 1 < count_partings(20):
                self.assertEqual(next_parting(parting), nth_parting(20, index + 1))

    def test_twenty_persons_by_their_coming_lists(self):
        for tree in trees_of_twenty():
            index = 0
            for at, item in enumerate(coming_of(parting_of(tree))):
                index = index * (2 * at + 1) + item + at
            self.assertEqual(parting_index(parting_of(tree)), index)
            self.assertEqual(nth_parting(20, index), parting_of(tree))

    def test_next_ones_of_twenty(self):
        self.assertEqual(next_parting(parting_by([0] * 18 + [18])), parting_by([0] * 17 + [1, -18]))
        self.assertEqual(next_parting(parting_by([0] + TWENTY[1:19])), None)
        self.assertEqual(next_parting(parting_by([0, -1] + TWENTY[2:19])), parting_by([0, 0] + LEAST[2:]))
        self.assertEqual(next_parting(parting_by(LEAST)), parting_by(LEAST[:18] + [-17]))
        for tree in trees_of_twenty():
            parting = parting_of(tree)
            if parting != parting_by(TWENTY[:19]):
                self.assertEqual(parting_index(next_parting(parting)), parting_index(parting) + 1)

    def test_the_example(self):
        partings = [nth_parting(4, index) for index in range(15)]
        having = [coming_of(parting) for parting in partings if [0, 1] in parting]
        self.assertEqual(having, [[0, -1, -2], [0, -1, -1], [0, -1, 2]])


class WithTold(unittest.TestCase):

    def test_all_families_of_up_to_five(self):
        for persons in range(1, 6):
            partings = in_sequence(persons)
            for seed, family in enumerate(families(persons)):
                told = mixed(family, seed)
                having = [parting for parting in partings if all(group in parting for group in told)]
                for index, parting in enumerate(having):
                    self.assertEqual(nth_with(persons, told, index), parting)
                    self.assertEqual(index_with(parting, told), index)
                for index in (-1, len(having), 10 ** 30):
                    self.assertIs(error_of(nth_with, persons, told, index), InvalidIndex)

    def test_some_families_of_six(self):
        partings = in_sequence(6)
        for seed, family in list(enumerate(families(6)))[3::131]:
            told = mixed(family, seed)
            having = [parting for parting in partings if all(group in parting for group in told)]
            self.assertEqual([nth_with(6, told, index) for index in range(len(having))], having)
            self.assertEqual([index_with(parting, told) for parting in having], list(range(len(having))))

    def test_twenty_persons_by_going_through_all_that_are_left(self):
        for told in nearly_whole_of_twenty()[::3] + nearly_whole_of_twenty()[3::10]:
            having = sorted([parting_of(tree) for tree in trees_with(TWENTY, told)], key=coming_of)
            for index in some_indices(len(having)):
                self.assertEqual(nth_with(20, told, index), having[index])
                self.assertEqual(index_with(having[index], told), index)
            self.assertIs(error_of(nth_with, 20, told, len(having)), InvalidIndex)
            self.assertIs(error_of(nth_with, 20, told, -1), InvalidIndex)

    def test_twenty_persons_with_many_left(self):
        for told in told_of_twenty():
            comings = []
            for index in some_indices(count_with(20, told)):
                parting = nth_with(20, told, index)
                self.assertIs(is_parting(parting), True)
                self.assertTrue(all(group in parting for group in told))
                self.assertEqual(index_with(parting, told), index)
                comings.append(coming_of(parting))
            self.assertEqual(sorted(comings), comings)
            self.assertIs(error_of(nth_with, 20, told, count_with(20, told)), InvalidIndex)

    def test_the_first_one_has_no_lesser_neighbour(self):
        for told in told_of_twenty():
            first = nth_with(20, told, 0)
            # Each lesser item at one place, with the items ahead of it, leads away from a told group.
            coming = coming_of(first)
            for at, item in enumerate(coming):
                for lesser in range(-at, item):
                    come = set(map(tuple, parting_by(coming[:at] + [lesser])))
                    cuts = [tuple(person for person in group if person <= at + 1) for group in told]
                    self.assertTrue(any(len(cut) > 1 and cut not in come for cut in cuts))

    def test_none_told_is_all_partings(self):
        for persons in range(1, 21):
            for index in some_indices(count_partings(persons)):
                parting = nth_parting(persons, index)
                self.assertEqual(nth_with(persons, [], index), parting)
                self.assertEqual(index_with(parting, []), index)
                if persons > 1:
                    self.assertEqual(nth_with(persons, [TWENTY[:persons]], index), parting)
                    self.assertEqual(index_with(parting, [TWENTY[:persons]]), index)

    def test_all_groups_told(self):
        for seed, tree in enumerate(trees_of_twenty()):
            told = mixed(parting_of(tree), seed)
            self.assertEqual(nth_with(20, told, 0), parting_of(tree))
            self.assertEqual(index_with(parting_of(tree), told), 0)

    def test_the_example(self):
        having = [coming_of(nth_with(4, [[0, 1]], index)) for index in range(3)]
        self.assertEqual(having, [[0, -1, -2], [0, -1, -1], [0, -1, 2]])
        self.assertIs(error_of(nth_with, 4, [[0, 1]], 3), InvalidIndex)


class ByPairs(unittest.TestCase):

    def test_up_to_six_persons(self):
        for persons in range(1, 7):
            partings = sorted(in_sequence(persons), key=pairs_of)
            for index, parting in enumerate(partings):
                self.assertEqual(nth_by_pairs(persons, index), parting)
                self.assertEqual(index_by_pairs(parting), index)

    def test_the_first_and_the_last_of_each_number_of_persons(self):
        for persons in range(1, 21):
            last = count_partings(persons) - 1
            first_one, last_one = nth_by_pairs(persons, 0), nth_by_pairs(persons, last)
            self.assertEqual(pairs_of(first_one), [(2 * at, 2 * at + 1) for at in range(persons - 1)])
            self.assertEqual(pairs_of(last_one), [(at, 2 * persons - 3 - at) for at in range(persons - 1)])
            self.assertEqual((index_by_pairs(first_one), index_by_pairs(last_one)), (0, last))
            for index in (-1, last + 1, last + 2, 10 ** 30, -(10 ** 30)):
                self.assertIs(error_of(nth_by_pairs, persons, index), InvalidIndex)

    def test_twenty_persons(self):
        pairs = []
        for index in some_indices(count_partings(20)):
            parting = nth_by_pairs(20, index)
            self.assertIs(is_parting(parting), True)
            self.assertEqual(index_by_pairs(parting), index)
            pairs.append(pairs_of(parting))
        self.assertEqual(sorted(pairs), pairs)
        for tree in trees_of_twenty():
            self.assertEqual(nth_by_pairs(20, index_by_pairs(parting_of(tree))), parting_of(tree))

    def test_the_two_sequences_are_unlike(self):
        self.assertEqual(nth_parting(4, 0), [[0, 1], [0, 1, 2], [0, 1, 2, 3]])
        self.assertEqual(nth_by_pairs(4, 0), HALVES)


class Errors(unittest.TestCase):

    def test_lacking_behind_all_others(self):
        self.assertIs(error_of(index_with, HALVES, [[0, 2]]), Lacking)
        self.assertIs(error_of(index_with, HALVES, [[0, 1], [0, 1, 2]]), Lacking)
        self.assertIs(error_of(index_with, HALVES, [[0, 2], [0, 1]]), Crossing)
        self.assertIs(error_of(index_with, HALVES, [[0, 2], [0, 4]]), InvalidGroups)
        self.assertIs(error_of(index_with, HALVES, [[0, 2], [0, 2]]), InvalidGroups)
        self.assertIs(error_of(index_with, HALVES[::-1], [[0, 2], [0, 2]]), InvalidParting)
        self.assertIs(error_of(index_with, [], [[0, 1]]), InvalidGroups)
        for tree in trees_of_twenty():
            parting = parting_of(tree)
            for at, group in enumerate(parting):
                if len(group) < 19:
                    more = sorted(group + [person for person in TWENTY if person not in group][:1])
                    expected = None if more in parting else Lacking
                    self.assertIs(error_of(index_with, parting, [more]), expected)

    def test_an_index_is_looked_at_last(self):
        self.assertIs(error_of(nth_with, 4, [[0, 1], [1, 2]], 99), Crossing)
        self.assertIs(error_of(nth_with, 4, [[0, 1], [1, 2]], 0), Crossing)
        self.assertIs(error_of(nth_with, 4, [[0, 1], [1, 4]], -1), InvalidGroups)
        self.assertIs(error_of(nth_with, 0, [[0, 1], [1, 4]], -1), InvalidPersons)
        for persons in (0, -1, 21, 10 ** 30):
            for index in (-1, 0, 10 ** 30):
                self.assertIs(error_of(nth_parting, persons, index), InvalidPersons)
                self.assertIs(error_of(nth_by_pairs, persons, index), InvalidPersons)

    def test_crossing_has_both_indices(self):
        for call, given in ((nth_with, 4), (index_with, HALVES)):
            with self.assertRaises(Crossing) as caught:
                call(given, [[0, 1], [2, 3], [1, 2]], *([0] if given == 4 else []))
            self.assertEqual((caught.exception.first, caught.exception.second), (0, 2))

    def test_combs_lack_each_other(self):
        self.assertIs(error_of(index_with, parting_of(comb(TWENTY)), [[18, 19]]), Lacking)


if __name__ == "__main__":
    unittest.main()
