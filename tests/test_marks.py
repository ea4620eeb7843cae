"""Points 3, 4 and 16: the least number of changes of marks, and how many partings have so many."""

import unittest
from itertools import combinations, product

from tests.helpers import (
    TWENTY, Dice, all_trees, comb, error_of, halved, inner_trees, members, mixed, odd_things, parting_of,
    trees_of_twenty,
)
from twopartings.errors import InvalidGroup, InvalidNumber, InvalidParting, InvalidPersons
from twopartings.marks import change_counts, changes_of
from twopartings.told import count_partings

HALVES = [[0, 1], [0, 1, 2, 3], [2, 3]]


def subsets(persons):
    return [list(some) for many in range(persons + 1) for some in combinations(range(persons), many)]


def changes_marked(tree, marks):
    """How many groups and persons are marked otherwise than the least group above them; marks by the tree itself."""
    if isinstance(tree, int):
        return 0
    return sum((marks[part] != marks[tree]) + changes_marked(part, marks) for part in tree)


def least_by_all_marks(tree, some):
    """The least number of changes, by going through all ways to mark the groups."""
    groups = inner_trees(tree)
    persons = {person: person in some for person in members(tree)}
    ways = product((False, True), repeat=len(groups))
    return min(changes_marked(tree, {**persons, **dict(zip(groups, marks))}) for marks in ways)


def costs(tree, some):
    """The least numbers of changes within a tree that is not marked itself, and within one that is."""
    if isinstance(tree, int):
        return (99, 0) if tree in some else (0, 99)
    parts = [costs(part, some) for part in tree]
    return tuple(sum(min(part[mark], part[1 - mark] + 1) for part in parts) for mark in (0, 1))


def choose(many, few):
    found = 1
    for at in range(few):
        found = found * (many - at) // (at + 1)
    return found


def tables(most):
    """For marked persons and others, up to so many in all: how many partings have so many changes, by unlike parts.

    Each row tells, for partings whose company is best not marked, best marked or either, the counts by changes, as
    the digits of one large number.
    """
    base = 100
    rows = {(0, 1): (1, 0, 0), (1, 0): (0, 1, 0)}
    for persons in range(2, most + 1):
        for marked in range(persons + 1):
            others = persons - marked
            found = [0, 0, 0]
            for few, less in product(range(marked + 1), range(others + 1)):
                if 0 < few + less < persons:
                    ways = choose(marked, few) * choose(others, less)
                    one, other = rows[few, less], rows[marked - few, others - less]
                    found[0] += ways * (one[0] * (other[0] + 2 * other[2]))
                    found[1] += ways * (one[1] * (other[1] + 2 * other[2]))
                    found[2] += ways * (one[2] * other[2] + ((one[0] * other[1]) << base) * 2)
            # Each way to part the company has been counted twice.
            rows[marked, others] = tuple(number // 2 for number in found)
    return {key: digits(sum(row), base) for key, row in rows.items()}


def digits(number, base):
    found = []
    while number:
        found.append(number % (1 << base))
        number >>= base
    return found


class Changes(unittest.TestCase):

    def test_by_all_ways_to_mark_the_groups(self):
        for persons in range(1, 6):
            for tree in all_trees(list(range(persons))):
                parting = parting_of(tree)
                for some in subsets(persons):
                    self.assertEqual(changes_of(parting, some), least_by_all_marks(tree, some))

    def test_by_all_ways_for_some_partings_of_six_and_eight(self):
        for tree in all_trees(TWENTY[:6])[::30]:
            for some in subsets(6)[::3]:
                self.assertEqual(changes_of(parting_of(tree), some), least_by_all_marks(tree, some))
        for tree in (halved(TWENTY[:8]), comb(mixed(TWENTY[:8], 3))):
            for some in subsets(8)[::25]:
                self.assertEqual(changes_of(parting_of(tree), some), least_by_all_marks(tree, some))

    def test_by_the_least_costs_of_twenty_persons(self):
        dice = Dice(7)
        for tree in trees_of_twenty():
            parting = parting_of(tree)
            for _ in range(12):
                few = dice.below(5) + 2
                some = [person for person in TWENTY if dice.below(few) == 0]
                self.assertEqual(changes_of(parting, some), min(costs(tree, some)))

    def test_all_others_marked_in_their_place(self):
        dice = Dice(11)
        for tree in trees_of_twenty() + all_trees(TWENTY[:5]):
            persons = members(tree)
            for _ in range(5):
                some = [person for person in persons if dice.below(2)]
                others = [person for person in persons if person not in some]
                self.assertEqual(changes_of(parting_of(tree), some), changes_of(parting_of(tree), others))

    def test_nobody_and_everybody(self):
        for tree in trees_of_twenty() + [0, (0, 1), ((0, 2), 1)]:
            self.assertEqual(changes_of(parting_of(tree), []), 0)
            self.assertEqual(changes_of(parting_of(tree), members(tree)), 0)
        for person in TWENTY:
            self.assertEqual(changes_of(parting_of(halved(TWENTY)), [person]), 1)
        self.assertEqual(changes_of([], [0]), 0)
        self.assertEqual(changes_of([[0, 1]], [0]), 1)

    def test_by_hand(self):
        self.assertEqual(changes_of(HALVES, [0, 1]), 1)
        self.assertEqual(changes_of(HALVES, [0, 2]), 2)
        self.assertEqual(changes_of(HALVES, [1]), 1)
        # In a comb each second person is a change, but half of the persons at most.
        self.assertEqual(changes_of(parting_of(comb(TWENTY)), TWENTY[::2]), 10)
        self.assertEqual(changes_of(parting_of(comb(TWENTY)), TWENTY[:10]), 1)
        self.assertEqual(changes_of(parting_of(comb(TWENTY)), TWENTY[5:10]), 2)

    def test_a_group_marked_is_one_change(self):
        for tree in trees_of_twenty():
            for group in parting_of(tree):
                self.assertEqual(changes_of(parting_of(tree), group), int(len(group) < 20))


class Counts(unittest.TestCase):

    def test_by_going_through_all_partings(self):
        for persons in range(1, 7):
            partings = [parting_of(tree) for tree in all_trees(list(range(persons)))]
            for number in range(persons + 1):
                for some in (TWENTY[:number], TWENTY[persons - number:persons]):
                    changes = [changes_of(parting, some) for parting in partings]
                    counts = [changes.count(many) for many in range(min(number, persons - number) + 1)]
                    self.assertEqual(change_counts(persons, number), counts)

    def test_by_the_parts_of_the_company(self):
        for (marked, others), counts in tables(20).items():
            self.assertEqual(change_counts(marked + others, marked), counts)

    def test_all_partings_are_counted(self):
        for persons in range(1, 21):
            for number in range(persons + 1):
                counts = change_counts(persons, number)
                self.assertEqual(len(counts), min(number, persons - number) + 1)
                self.assertEqual(sum(counts), count_partings(persons))
                self.assertEqual(counts, change_counts(persons, persons - number))

    def test_few_persons(self):
        self.assertEqual((change_counts(1, 0), change_counts(1, 1)), ([1], [1]))
        self.assertEqual([change_counts(2, number) for number in range(3)], [[1], [0, 1], [1]])
        self.assertEqual(change_counts(4, 2), [0, 5, 10])
        self.assertEqual(change_counts(4, 1), [0, 15])
        self.assertEqual(change_counts(4, 4), [15])


class Wrong(unittest.TestCase):

    def test_what_is_no_list_of_persons(self):
        things = [
            [4], [-1], [0, 4], [1, 0], [0, 0], [0, 1, 2, 3, 4], [True], [0, True], [False], (), (0, 1), None, 0, "", {},
            [[0]], ["0"], [None], [0, 1, 1], {0: 1},
        ]
        for thing in things + odd_things():
            self.assertIs(error_of(changes_of, HALVES, thing), InvalidGroup)
        for parting in ([], [[0, 1]], parting_of(comb(TWENTY))):
            persons = len(parting) + 1
            self.assertIs(error_of(changes_of, parting, [persons]), InvalidGroup)
            self.assertIs(error_of(changes_of, parting, [-1]), InvalidGroup)
            self.assertIsNone(error_of(changes_of, parting, [persons - 1]))

    def test_numbers_beyond_the_limits(self):
        for persons in range(1, 21):
            for number in (-1, persons + 1, 21, 10 ** 30, -(10 ** 30)):
                self.assertIs(error_of(change_counts, persons, number), InvalidNumber)
        for persons in (0, 21, -1, 10 ** 30):
            for number in (0, -1, 21):
                self.assertIs(error_of(change_counts, persons, number), InvalidPersons)

    def test_the_first_one_decides(self):
        for parting in ([[0, 1], [1, 2]], None, HALVES[::-1], HALVES[:2]):
            for some in ([], [9], None):
                self.assertIs(error_of(changes_of, parting, some), InvalidParting)


if __name__ == "__main__":
    unittest.main()
