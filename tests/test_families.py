"""Points 3, 4 and 15: families, and the histories in which parts are joined."""

import unittest
from functools import cache
from itertools import combinations, permutations, product
from math import comb as chosen
from math import factorial

from tests.helpers import (
    TWENTY, all_groups, comb, cross, error_of, families, halved, mixed, odd_things, parting_of, share,
    told_of_twenty, tree_histories, trees_of_twenty,
)
from twopartings.errors import InvalidGroup
from twopartings.families import all_histories, family_counts, histories, history_share, is_family
from twopartings.told import count_partings, crossing


def all_joined(parts, made):
    """For each history that goes on from these parts: all groups that it makes, those made so far included."""
    if len(parts) == 1:
        return [made]
    found = []
    for one, other in combinations(parts, 2):
        joined = tuple(sorted(one + other))
        rest = [part for part in parts if part not in (one, other)]
        found += all_joined(rest + [joined], made + [list(joined)])
    return found


def histories_of(persons):
    return [sorted(made) for made in all_joined([(person,) for person in range(persons)], [])]


@cache
def hierarchies(persons, groups):
    """How many families there are with the company and so many groups in all."""
    if persons == 1 or groups == 0:
        return int(persons == 1 and groups == 0)
    return forests(persons, groups - 1, 2)


@cache
def forests(persons, groups, least):
    """In how many ways persons fall into at least so many units, these having so many groups in all."""
    if persons == 0:
        return int(groups == 0 and least <= 0)
    found = 0
    # The unit of the first person.
    for size in range(1, persons + 1):
        for held in range(groups + 1):
            rest = forests(persons - size, groups - held, max(least - 1, 0))
            if rest and (least < 2 or size < persons):
                found += chosen(persons - 1, size - 1) * hierarchies(size, held) * rest
    return found


class IsFamily(unittest.TestCase):

    def test_all_short_lists_of_groups(self):
        for persons in range(1, 5):
            groups = all_groups(persons)
            for many in range(4):
                for told in product(groups, repeat=many):
                    unlike = len(set(map(tuple, told))) == many
                    apart = not any(cross(one, other) for one, other in combinations(told, 2))
                    self.assertIs(is_family(persons, list(told)), unlike and apart)

    def test_all_families_in_any_sequence(self):
        for persons in range(1, 6):
            for seed, family in enumerate(families(persons)):
                self.assertIs(is_family(persons, mixed(family, seed)), True)
        for told in permutations([[0, 1], [0, 1, 2, 3], [2, 3]]):
            self.assertIs(is_family(4, list(told)), True)

    def test_twenty_persons(self):
        for told in told_of_twenty():
            self.assertIs(is_family(20, told), True)
            for group in ([0, 1], TWENTY[5:15], [7, 19]):
                if group not in told and len(told) < 19:
                    self.assertIs(is_family(20, told + [group]), crossing(20, told + [group]) is None)

    def test_nineteen_groups_but_not_twenty(self):
        whole = parting_of(comb(TWENTY))
        self.assertIs(is_family(20, whole), True)
        self.assertIs(is_family(20, whole + [[0, 1]]), False)
        self.assertIs(is_family(20, whole + [[1, 2]]), False)
        self.assertIs(is_family(20, whole[1:] + [[1, 2]]), True)
        self.assertIs(is_family(20, whole[:18] + [[1, 2]]), False)

    def test_any_object(self):
        for thing in odd_things():
            for persons in (1, 2, 4, 20):
                self.assertIs(is_family(persons, thing), False)
        for thing in ([[0, 1], [0, 1]], [[1, 0]], [[0, 0]], [[0]], [[]], [(0, 1)], ([0, 1],), [[0, 4]], [[-1, 0]]):
            self.assertIs(is_family(4, thing), False)
        self.assertIs(is_family(1, []), True)
        self.assertIs(is_family(1, [[0]]), False)
        self.assertIs(is_family(2, [[0, 1]]), True)
        self.assertIs(is_family(1, [[0, 1]]), False)


class FamilyCounts(unittest.TestCase):

    def test_by_going_through_all_families(self):
        for persons in range(2, 7):
            whole = [len(family) for family in families(persons) if list(range(persons)) in family]
            self.assertEqual(family_counts(persons), [whole.count(many) for many in range(persons)])

    def test_by_the_units_of_the_company(self):
        for persons in range(1, 21):
            self.assertEqual(family_counts(persons), [hierarchies(persons, many) for many in range(persons)])

    def test_few_groups_and_many(self):
        self.assertEqual(family_counts(1), [1])
        self.assertEqual(family_counts(2), [0, 1])
        self.assertEqual(family_counts(3), [0, 1, 3])
        self.assertEqual(family_counts(4), [0, 1, 10, 15])
        for persons in range(3, 21):
            counts = family_counts(persons)
            self.assertEqual(counts[:3], [0, 1, 2 ** persons - persons - 2])
            self.assertEqual(counts[-1], count_partings(persons))


class Histories(unittest.TestCase):

    def test_by_going_through_all_histories(self):
        for persons in range(1, 7):
            every = histories_of(persons)
            self.assertEqual(all_histories(persons), len(every))
            unlike = {str(made): made for made in every}.values()
            self.assertEqual(len(unlike), count_partings(persons))
            for parting in unlike:
                self.assertEqual(histories(parting), every.count(parting))
            for group in all_groups(persons):
                having = [made for made in every if group in made]
                self.assertEqual(history_share(persons, group), share(len(having), len(every)))

    def test_all_histories_of_up_to_twenty(self):
        for persons in range(1, 21):
            whole = factorial(persons) * factorial(persons - 1)
            self.assertEqual(all_histories(persons) * 2 ** (persons - 1), whole)

    def test_twenty_persons(self):
        for tree in trees_of_twenty():
            self.assertEqual(histories(parting_of(tree)), tree_histories(tree))
        self.assertEqual(histories(parting_of(comb(TWENTY))), 1)
        self.assertEqual(histories(parting_of((comb(TWENTY[:10]), comb(TWENTY[10:])))), chosen(18, 9))
        self.assertEqual(histories(parting_of(halved(TWENTY[:8]))), 80)

    def test_shares_by_the_size_of_the_group(self):
        for persons in range(2, 21):
            for size in range(2, persons):
                expected = share(2 * persons, size * (size + 1) * chosen(persons, size))
                for group in (TWENTY[:size], TWENTY[persons - size:persons]):
                    self.assertEqual(history_share(persons, group), expected)
            self.assertEqual(history_share(persons, TWENTY[:persons]), (1, 1))

    def test_the_example(self):
        self.assertEqual(all_histories(4), 18)
        self.assertEqual(histories([[0, 1], [0, 1, 2, 3], [2, 3]]), 2)
        self.assertEqual(histories([[0, 1], [0, 1, 2], [0, 1, 2, 3]]), 1)

    def test_one_person_and_two(self):
        self.assertEqual((all_histories(1), all_histories(2), histories([]), histories([[0, 1]])), (1, 1, 1, 1))
        self.assertEqual(history_share(2, [0, 1]), (1, 1))
        for group in ([0], [], [0, 1]):
            self.assertIs(error_of(history_share, 1, group), InvalidGroup)

    def test_the_groups_of_a_size_are_made_as_often_as_there_are(self):
        # Each history makes n - 1 groups, so that the shares of all groups come to n - 1.
        for persons in range(2, 21):
            bottom = all_histories(persons)
            made = 0
            for size in range(2, persons + 1):
                top, whole = history_share(persons, TWENTY[:size])
                made += chosen(persons, size) * top * bottom // whole
            self.assertEqual(made, (persons - 1) * bottom)

    def test_shares_over_partings(self):
        for persons in range(2, 6):
            every = {str(made): made for made in histories_of(persons)}.values()
            for group in all_groups(persons):
                having = sum(histories(parting) for parting in every if group in parting)
                self.assertEqual(history_share(persons, group), share(having, all_histories(persons)))

    def test_renamed_groups_have_equal_shares(self):
        for persons in (5, 20):
            for group in ([0, 1], [0, 2, 4], [1, 2, 3, 4]):
                self.assertEqual(history_share(persons, group), history_share(persons, TWENTY[:len(group)]))


if __name__ == "__main__":
    unittest.main()
