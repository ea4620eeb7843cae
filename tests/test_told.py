"""Points 3, 4 and 9: told groups, how many partings have them, and their units."""

import unittest
from itertools import permutations

from tests.helpers import (
    TWENTY, all_groups, all_trees, comb, cross, error_of, families, mixed, nearly_whole_of_twenty, parting_of, share,
    told_of_twenty, trees_of_twenty, trees_with,
)
from twopartings.errors import Crossing
from twopartings.partings import parts_of
from twopartings.told import count_partings, count_with, crossing, group_share, share_with, units_of

COUNTS = [1, 1, 3, 15, 105, 945, 10395, 135135, 2027025, 34459425]
FOUR_CROSSINGS = [
    ([[0, 1], [2, 3], [1, 2]], (0, 2)),
    ([[0, 1], [1, 2]], (0, 1)),
    ([[2, 3], [0, 1], [1, 2]], (0, 2)),
    ([[0, 1], [0, 1, 2], [2, 3]], (1, 2)),
    ([[0, 1], [0, 2], [0, 3]], (0, 1)),
    ([[0, 1, 2], [0, 1, 3]], (0, 1)),
    ([[0, 1, 2, 3], [0, 1], [0, 1, 2], [0, 3]], (1, 3)),
    ([[0, 1, 2, 3], [0, 1, 2], [0, 1], [0, 3]], (1, 3)),
    ([[0, 1, 2], [0, 1], [1, 2]], (1, 2)),
]


def partings_of(persons):
    return [parting_of(tree) for tree in all_trees(list(range(persons)))]


def units_by_the_words(told, group):
    """The units as point 3 has them, with sets."""
    within = [set(other) for other in told if set(other) < set(group)]
    greatest = [other for other in within if not any(other < more for more in within)]
    return sorted([sorted(unit) for unit in greatest] + [
        [person] for person in group if not any(person in unit for unit in within)
    ])


def product_of_result_2(persons, told):
    """The product of [c] over the company and all told groups, the company once."""
    found = 1
    for group in told + ([] if list(range(persons)) in told else [list(range(persons))]):
        for units in range(2, len(units_by_the_words(told, group))):
            found *= 2 * units - 1
    return found


class CountPartings(unittest.TestCase):

    def test_up_to_six_by_going_through_all(self):
        for persons in range(1, 7):
            self.assertEqual(count_partings(persons), len(all_trees(list(range(persons)))))

    def test_up_to_twenty(self):
        self.assertEqual([count_partings(persons) for persons in range(1, 11)], COUNTS)
        for persons in range(2, 21):
            self.assertEqual(count_partings(persons), (2 * persons - 3) * count_partings(persons - 1))
        self.assertEqual(count_partings(20), 8200794532637891559375)


class Told(unittest.TestCase):

    def test_all_families_of_up_to_five_by_going_through_all_partings(self):
        for persons in range(1, 6):
            partings = partings_of(persons)
            for seed, family in enumerate(families(persons)):
                told = mixed(family, seed)
                many = len([parting for parting in partings if all(group in parting for group in told)])
                self.assertEqual(count_with(persons, told), many)
                self.assertEqual(share_with(persons, told), share(many, len(partings)))
                self.assertIsNone(crossing(persons, told))

    def test_some_families_of_six(self):
        partings = partings_of(6)
        for seed, family in list(enumerate(families(6)))[::97]:
            told = mixed(family, seed)
            many = len([parting for parting in partings if all(group in parting for group in told)])
            self.assertEqual(count_with(6, told), many)
            self.assertEqual(share_with(6, told), share(many, 945))

    def test_every_two_and_three_groups_of_four_whether_they_cross_or_not(self):
        partings = partings_of(4)
        for many in (1, 2, 3):
            for told in permutations(all_groups(4), many):
                told = list(told)
                found = len([parting for parting in partings if all(group in parting for group in told)])
                self.assertEqual(count_with(4, told), found)
                self.assertEqual(share_with(4, told), share(found, 15))
                self.assertEqual(crossing(4, told) is None, found > 0)

    def test_the_example(self):
        self.assertEqual(count_with(4, [[0, 1]]), 3)
        self.assertEqual(share_with(4, [[0, 1]]), (1, 5))
        self.assertEqual(count_with(4, []), 15)

    def test_twenty_persons_by_the_product(self):
        for told in told_of_twenty():
            many = product_of_result_2(20, told)
            self.assertEqual(count_with(20, told), many)
            self.assertEqual(share_with(20, told), share(many, 8200794532637891559375))
            self.assertIsNone(crossing(20, told))

    def test_twenty_persons_by_going_through_all_that_are_left(self):
        for told in nearly_whole_of_twenty():
            self.assertEqual(count_with(20, told), len(trees_with(TWENTY, told)))

    def test_in_any_sequence_the_company_among_them_or_not(self):
        for seed, told in enumerate(told_of_twenty()):
            many = count_with(20, told)
            self.assertEqual(count_with(20, mixed(told, seed + 3)), many)
            self.assertEqual(count_with(20, told[::-1]), many)
            inner = [group for group in told if group != TWENTY]
            self.assertEqual(count_with(20, inner), many)
            self.assertEqual(count_with(20, inner[:18] + [TWENTY]), count_with(20, inner[:18]))

    def test_none_and_all_groups(self):
        for persons in range(1, 21):
            company = [list(range(persons))] if persons > 1 else []
            for told in ([], company):
                self.assertEqual(count_with(persons, told), count_partings(persons))
                self.assertEqual(share_with(persons, told), (1, 1))
            self.assertEqual(count_with(persons, parting_of(comb(list(range(persons))))), 1)
        for tree in trees_of_twenty():
            self.assertEqual(count_with(20, parting_of(tree)), 1)
            self.assertEqual(share_with(20, parting_of(tree)), (1, 8200794532637891559375))

    def test_one_person_and_two(self):
        self.assertEqual((count_with(1, []), share_with(1, []), crossing(1, [])), (1, (1, 1), None))
        for told in ([], [[0, 1]]):
            self.assertEqual((count_with(2, told), share_with(2, told), crossing(2, told)), (1, (1, 1), None))


class Crossings(unittest.TestCase):

    def test_the_least_indices(self):
        for told, indices in FOUR_CROSSINGS:
            self.assertEqual(crossing(4, told), indices)
            self.assertIs(type(crossing(4, told)), tuple)
            self.assertEqual(count_with(4, told), 0)
            self.assertEqual(share_with(4, told), (0, 1))

    def test_every_three_and_four_groups_of_four(self):
        groups = all_groups(4)
        for many in (3, 4):
            for told in permutations(groups, many):
                pairs = [(first, second) for second in range(many) for first in range(second)]
                crossed = [pair for pair in pairs if cross(told[pair[0]], told[pair[1]])]
                self.assertEqual(crossing(4, list(told)), crossed[0] if crossed else None)

    def test_nineteen_groups_that_cross_at_the_end(self):
        for tree in trees_of_twenty():
            inner = [group for group in parting_of(tree) if len(group) < 20]
            for told in (inner, inner[::-1]):
                for group in ([0, 1], [0, 7], [3, 10], TWENTY[1:], TWENTY[::2]):
                    crossed = [at for at, other in enumerate(told) if cross(group, other)]
                    expected = (crossed[0], 18) if crossed else None
                    if group not in told:
                        self.assertEqual(crossing(20, told + [group]), expected)
                        self.assertEqual(count_with(20, told + [group]) == 0, bool(crossed))

    def test_what_needs_a_family_raises_it_with_both(self):
        for told, (first, second) in FOUR_CROSSINGS:
            for call, rest in ((units_of, [told[0]]), (units_of, [[0, 1, 2, 3]]), (group_share, [[0, 1]])):
                with self.assertRaises(Crossing) as caught:
                    call(4, told, *rest)
                self.assertEqual((caught.exception.first, caught.exception.second), (first, second))

    def test_what_needs_no_family_raises_nothing(self):
        for told, _ in FOUR_CROSSINGS:
            for call in (crossing, count_with, share_with):
                self.assertIsNone(error_of(call, 4, told))


class Units(unittest.TestCase):

    def test_all_families_of_up_to_five(self):
        for persons in range(2, 6):
            for seed, family in enumerate(families(persons)):
                told = mixed(family, seed)
                for group in told + [list(range(persons))]:
                    self.assertEqual(units_of(persons, told, group), units_by_the_words(told, group))

    def test_twenty_persons(self):
        for told in told_of_twenty():
            for group in told + [TWENTY]:
                units = units_of(20, told, group)
                self.assertEqual(units, units_by_the_words(told, group))
                self.assertEqual(sorted(person for unit in units for person in unit), group)

    def test_plain_cases(self):
        told = [[4, 5], [0, 2, 3], [2, 3], [0, 1, 2, 3]]
        self.assertEqual(units_of(6, told, TWENTY[:6]), [[0, 1, 2, 3], [4, 5]])
        self.assertEqual(units_of(6, told, [0, 1, 2, 3]), [[0, 2, 3], [1]])
        self.assertEqual(units_of(6, told, [0, 2, 3]), [[0], [2, 3]])
        self.assertEqual(units_of(6, told, [4, 5]), [[4], [5]])
        self.assertEqual(units_of(3, [], [0, 1, 2]), [[0], [1], [2]])
        self.assertEqual(units_of(3, [[0, 1, 2]], [0, 1, 2]), [[0], [1], [2]])
        self.assertEqual(units_of(3, [[1, 2]], [0, 1, 2]), [[0], [1, 2]])
        self.assertEqual(units_of(2, [], [0, 1]), [[0], [1]])
        self.assertEqual(units_of(20, [], TWENTY), [[person] for person in TWENTY])

    def test_of_whole_partings_they_are_the_parts(self):
        for tree in trees_of_twenty():
            parting = parting_of(tree)
            for group in parting:
                self.assertEqual(units_of(20, parting, group), parts_of(parting, group))


class GroupShare(unittest.TestCase):

    def test_all_families_and_groups_of_up_to_five(self):
        for persons in range(2, 6):
            partings = partings_of(persons)
            for told in families(persons):
                having = [parting for parting in partings if all(group in parting for group in told)]
                for group in all_groups(persons):
                    many = len([parting for parting in having if group in parting])
                    self.assertEqual(group_share(persons, told, group), share(many, len(having)))

    def test_twenty_persons_by_going_through_all_that_are_left(self):
        for told in nearly_whole_of_twenty()[3::5]:
            having = [parting_of(tree) for tree in trees_with(TWENTY, told)]
            groups = {tuple(group) for parting in having for group in parting} | {(0, 1), tuple(TWENTY[1:])}
            for group in groups:
                many = len([parting for parting in having if list(group) in parting])
                self.assertEqual(group_share(20, told, list(group)), share(many, len(having)))

    def test_twenty_persons_by_the_product(self):
        groups = [[0, 1], [3, 17], TWENTY[:10], TWENTY[::2], TWENTY[1:], TWENTY, [6, 7, 8]]
        for told in told_of_twenty():
            for group in groups:
                if any(cross(group, other) for other in told):
                    expected = (0, 1)
                else:
                    more = told if group in told else told + [group]
                    expected = share(product_of_result_2(20, more), product_of_result_2(20, told))
                self.assertEqual(group_share(20, told, group), expected)

    def test_told_ones_and_the_company(self):
        for told in told_of_twenty():
            for group in told + [TWENTY]:
                self.assertEqual(group_share(20, told, group), (1, 1))
        self.assertEqual(group_share(2, [], [0, 1]), (1, 1))

    def test_plain_cases(self):
        self.assertEqual(group_share(4, [], [0, 1]), (1, 5))
        self.assertEqual(group_share(4, [[0, 1]], [2, 3]), (1, 3))
        self.assertEqual(group_share(4, [[0, 1]], [0, 1, 2]), (1, 3))
        self.assertEqual(group_share(4, [[0, 1]], [0, 2]), (0, 1))
        self.assertEqual(group_share(20, [], [0, 1]), (1, 37))


if __name__ == "__main__":
    unittest.main()
