"""Points 3 and 7: coming lists, and the partings that they lead to."""

import unittest
from itertools import product

from tests.helpers import (
    TWENTY, all_trees, comb, comings_of_twenty, error_of, odd_things, parting_of, tree_by, trees_of_twenty,
)
from twopartings.comings import coming_of, is_coming, parting_by
from twopartings.errors import InvalidComing, InvalidParting
from twopartings.partings import cut_to, is_parting

EXAMPLES = [
    ([], []),
    ([0], [[0, 1]]),
    ([0, 0], [[0, 1, 2], [0, 2]]),
    ([0, 1], [[0, 1, 2], [1, 2]]),
    ([0, -1], [[0, 1], [0, 1, 2]]),
    ([0, -1, 2], [[0, 1], [0, 1, 2, 3], [2, 3]]),
    ([0, -1, -2], [[0, 1], [0, 1, 2], [0, 1, 2, 3]]),
    ([0, -1, -1], [[0, 1], [0, 1, 2, 3], [0, 1, 3]]),
    ([0, 0, -1], [[0, 1, 2], [0, 1, 2, 3], [0, 2]]),
]
WRONG = [
    [1], [-1], [0, 2], [0, -2], [0, 0, 3], [0, 0, -3], [0, 1, 2, 4], [0, 1, 2, -4], [10 ** 30], [0, -(10 ** 30)],
    [False], [0, True], [0, False], [0, None], [0, "1"], [0, [1]], [0, (1,)], (), (0,), (0, 1), "0", "",
    [0] * 20, [0] * 40, TWENTY, [[0, 1]], [[0, 1], [0, 1, 2]], {}, {"0": 0},
]


def comings(persons):
    return [list(items) for items in product(*[range(-at, at + 1) for at in range(persons - 1)])]


class IsComing(unittest.TestCase):

    def test_each_item_has_its_own_limits(self):
        for at in range(19):
            for item in range(-at - 2, at + 3):
                self.assertIs(is_coming([0] * at + [item]), -at <= item <= at)
                self.assertIs(is_coming([0] * at + [item] + [0] * (18 - at)), -at <= item <= at)

    def test_from_none_to_nineteen_items(self):
        for many in range(20):
            self.assertIs(is_coming([0] * many), True)
            self.assertIs(is_coming(list(range(many))), True)
            self.assertIs(is_coming([-at for at in range(many)]), True)
        for many in (20, 21, 100):
            self.assertIs(is_coming([0] * many), False)

    def test_any_object(self):
        for thing in odd_things() + WRONG:
            with self.subTest(str(thing)[:80]):
                self.assertIs(is_coming(thing), False)


class ThereAndBack(unittest.TestCase):

    def test_examples(self):
        for coming, parting in EXAMPLES:
            self.assertEqual(parting_by(coming), parting)
            self.assertEqual(coming_of(parting), coming)

    def test_the_three_partings_with_0_and_1(self):
        found = [coming for coming in comings(4) if [0, 1] in parting_by(coming)]
        self.assertEqual(found, [[0, -1, -2], [0, -1, -1], [0, -1, 2]])

    def test_persons_come_into_the_tree_as_point_3_has_it(self):
        for persons in range(1, 7):
            for coming in comings(persons):
                self.assertEqual(parting_by(coming), parting_of(tree_by(coming)))

    def test_each_parting_comes_from_one_list(self):
        for persons, many in ((1, 1), (2, 1), (3, 3), (4, 15), (5, 105), (6, 945)):
            found = [parting_by(coming) for coming in comings(persons)]
            expected = [parting_of(tree) for tree in all_trees(list(range(persons)))]
            self.assertEqual(len(found), many)
            self.assertEqual(sorted(found), sorted(expected))

    def test_back_from_each_small_parting(self):
        for persons in range(1, 7):
            for coming in comings(persons):
                self.assertEqual(coming_of(parting_by(coming)), coming)
            for tree in all_trees(list(range(persons))):
                coming = coming_of(parting_of(tree))
                self.assertIs(is_coming(coming), True)
                self.assertEqual(parting_by(coming), parting_of(tree))

    def test_twenty_persons(self):
        for coming in comings_of_twenty():
            parting = parting_by(coming)
            self.assertIs(is_parting(parting), True)
            self.assertEqual(parting, parting_of(tree_by(coming)))
            self.assertEqual(coming_of(parting), coming)
        for tree in trees_of_twenty():
            coming = coming_of(parting_of(tree))
            self.assertIs(is_coming(coming), True)
            self.assertEqual(parting_by(coming), parting_of(tree))

    def test_combs_of_twenty(self):
        self.assertEqual(coming_of(parting_of(comb(TWENTY))), [0] + [-at for at in range(1, 19)])
        self.assertEqual(coming_of(parting_of(comb(TWENTY[::-1]))), TWENTY[:19])

    def test_the_first_persons_have_the_first_items(self):
        for tree in trees_of_twenty():
            parting = parting_of(tree)
            for persons in (1, 2, 3, 10, 19):
                self.assertEqual(coming_of(cut_to(parting, TWENTY[:persons])), coming_of(parting)[:persons - 1])

    def test_who_leaves_as_result_5_tells(self):
        for coming in comings(6):
            for person in range(1, 6):
                behind = coming[person:]
                if person in behind or -person in behind:
                    continue
                lowered = [item - (item > person) + (item < -person) for item in coming[:person - 1] + behind]
                others = [other for other in range(6) if other != person]
                self.assertEqual(coming_of(cut_to(parting_by(coming), others)), lowered)


class Errors(unittest.TestCase):

    def test_no_coming_list(self):
        for thing in odd_things() + WRONG:
            with self.subTest(str(thing)[:80]):
                self.assertIs(error_of(parting_by, thing), InvalidComing)

    def test_no_parting(self):
        wrong = [[0], [0, -1], [0, 0, -1], [[0, 1], [0, 2]], [[0, 1, 2]], [[0, 1, 2], [0, 1]], [(0, 1)], ([0, 1],)]
        wrong += [[[False, 1]], parting_of(comb(list(range(21))))]
        for thing in odd_things() + wrong:
            with self.subTest(str(thing)[:80]):
                self.assertIs(error_of(coming_of, thing), InvalidParting)


if __name__ == "__main__":
    unittest.main()
