"""Points 2, 3 and 6: partings, their parts, makers, depths, least groups, and how they are cut."""

import unittest
from itertools import combinations, permutations

from tests.helpers import (
    TWENTY, all_trees, comb, cut_tree, error_of, halved, inner_trees, members, odd_things, parting_of,
    tree_depth, tree_least, tree_maker, tree_parts, trees_of_twenty,
)
from twopartings.errors import InvalidGroup, InvalidParting, InvalidPerson
from twopartings.partings import cut_to, depth_of, is_parting, least_group, maker_of, parts_of, persons_of

HALVES = [[0, 1], [0, 1, 2, 3], [2, 3]]
STAIRS = [[0, 1], [0, 1, 2], [0, 1, 2, 3]]
BEYOND = [-1, 4, 5, 20, 10 ** 30, -(10 ** 30)]


def small_trees():
    return [tree for persons in range(1, 7) for tree in all_trees(list(range(persons)))]


def sample_trees():
    return small_trees() + trees_of_twenty()


def parting_by_the_words(groups, persons):
    """Whether these unlike sets are a parting, word by word as point 3 has it."""
    company = frozenset(range(persons))
    if len(groups) != persons - 1 or (persons > 1 and company not in groups) or min(map(len, groups), default=2) < 2:
        return False
    parts = list(groups) + [frozenset([person]) for person in company]
    return all(
        any(one | other == group and not one & other for one, other in combinations(parts, 2))
        for group in groups
    )


class IsParting(unittest.TestCase):

    def answers_false(self, *things):
        for thing in things:
            with self.subTest(str(thing)[:80]):
                self.assertIs(is_parting(thing), False)

    def test_the_partings_of_one_two_and_three_persons(self):
        for thing in ([], [[0, 1]], [[0, 1], [0, 1, 2]], [[0, 1, 2], [0, 2]], [[0, 1, 2], [1, 2]]):
            self.assertIs(is_parting(thing), True)

    def test_the_example(self):
        self.assertIs(is_parting(HALVES), True)
        self.assertIs(is_parting(STAIRS), True)

    def test_each_tree_is_one(self):
        for tree in sample_trees():
            self.assertIs(is_parting(parting_of(tree)), True)

    def test_so_many_as_result_1_tells(self):
        for persons, many in ((1, 1), (2, 1), (3, 3), (4, 15), (5, 105), (6, 945)):
            found = {str(parting_of(tree)) for tree in all_trees(list(range(persons)))}
            self.assertEqual(len(found), many)

    def test_every_list_of_unlike_sets_of_up_to_five_persons_by_the_words(self):
        for persons, many in ((1, 1), (2, 1), (3, 3), (4, 15), (5, 105)):
            sets = sorted(
                list(chosen) for size in range(1, persons + 1) for chosen in combinations(range(persons), size)
            )
            true = 0
            for groups in combinations(sets, persons - 1):
                expected = parting_by_the_words([frozenset(group) for group in groups], persons)
                self.assertIs(is_parting([list(group) for group in groups]), expected)
                true += expected
            self.assertEqual(true, many)

    def test_every_number_of_groups_of_four_persons(self):
        sets = sorted(list(chosen) for size in range(5) for chosen in combinations(range(4), size))
        for many in (1, 2, 4):
            for groups in combinations(sets, many):
                expected = parting_by_the_words([frozenset(group) for group in groups], many + 1)
                self.assertIs(is_parting([list(group) for group in groups]), expected)

    def test_twenty_persons_but_not_twenty_one(self):
        for tree in (comb(TWENTY), halved(TWENTY), comb(TWENTY[::-1])):
            self.assertIs(is_parting(parting_of(tree)), True)
        more = list(range(21))
        self.answers_false(parting_of(comb(more)), parting_of(halved(more)), parting_of(comb(list(range(40)))))

    def test_any_object(self):
        self.answers_false(*odd_things())

    def test_booleans_are_no_integers(self):
        self.answers_false([[False, 1]], [[0, True]], [[False, True]], [[0, True], [0, 1, 2]], [[0, 1, 2], [True, 2]])

    def test_tuples_and_dicts_are_no_lists(self):
        self.answers_false((), ([0, 1],), [(0, 1)], ((0, 1),), [[0, 1], (0, 1, 2)], {}, {"0": [0, 1]}, [{}])

    def test_not_ascending(self):
        self.answers_false([[1, 0]], [[0, 0]], [[0, 1], [0, 2, 1]], [[0, 1], [1, 0, 2]], [[0, 1, 1], [0, 1, 2]])
        for order in permutations(HALVES):
            self.assertIs(is_parting(list(order)), list(order) == HALVES)
        twenty = parting_of(halved(TWENTY))
        self.answers_false(twenty[::-1], [twenty[1], twenty[0]] + twenty[2:])

    def test_groups_that_cross(self):
        self.answers_false([[0, 1], [0, 2]], [[0, 1], [0, 1, 2, 3], [1, 2]], [[0, 1, 2], [0, 1, 2, 3], [1, 3]])
        self.answers_false([[0, 1, 2], [0, 1, 2, 3], [1, 2, 3]])

    def test_a_wrong_number_of_groups(self):
        self.answers_false([[0, 1, 2]], [[0, 1, 2, 3]], [[0, 1], [0, 1, 2, 3]], [[0, 1], [0, 1], [0, 1, 2]])
        self.answers_false([[0, 1], [0, 1, 2], [0, 1, 2]], HALVES + [[2, 3]], [[0, 1], [0, 1]])
        for tree in trees_of_twenty():
            parting = parting_of(tree)
            for at in range(19):
                if len(parting[at]) < 20:
                    self.answers_false(parting[:at] + parting[at + 1:])
                one_for_another = sorted(parting[:at] + parting[at + 1:] + [parting[at - 1]])
                self.answers_false(parting[:at + 1] + parting[at:], one_for_another)

    def test_the_company_lacking(self):
        self.answers_false([[0, 2]], [[1, 2]], [[0, 1], [2, 3]], [[0, 1], [0, 1, 2], [3, 4]], [[0, 1], [0, 3]])
        self.answers_false([[0, 1], [0, 1, 3], [0, 3]], [[0, 1], [0, 1, 2], [0, 1, 3]])

    def test_sets_of_one_person_or_of_nobody(self):
        self.answers_false([[]], [[0]], [[0], [0, 1]], [[], [0, 1]], [[0, 1, 2], [1]], [[0, 1], [0, 1, 2], [2]])

    def test_numbers_beyond_the_limits(self):
        self.answers_false([[-1, 0]], [[0, 2]], [[1, 2]], [[0, 1], [0, 1, 3]], [[0, 10 ** 30]], [[-(10 ** 30), 1]])
        self.answers_false([[0, 1], [0, 1, 10 ** 40]])


class PersonsOf(unittest.TestCase):

    def test_how_many(self):
        for tree in sample_trees():
            self.assertEqual(persons_of(parting_of(tree)), len(members(tree)))
        self.assertEqual(persons_of([]), 1)
        self.assertEqual(persons_of([[0, 1]]), 2)


class PartsAndMakers(unittest.TestCase):

    def test_the_parts_of_each_group(self):
        for tree in sample_trees():
            parting = parting_of(tree)
            for inner in inner_trees(tree):
                self.assertEqual(parts_of(parting, members(inner)), tree_parts(inner))

    def test_that_with_the_least_person_comes_first(self):
        self.assertEqual(parts_of([[0, 1, 2], [1, 2]], [0, 1, 2]), [[0], [1, 2]])
        self.assertEqual(parts_of([[0, 1, 2], [0, 2]], [0, 1, 2]), [[0, 2], [1]])
        self.assertEqual(parts_of([[0, 1]], [0, 1]), [[0], [1]])
        self.assertEqual(parts_of(HALVES, [0, 1, 2, 3]), [[0, 1], [2, 3]])
        self.assertEqual(parts_of(HALVES, [2, 3]), [[2], [3]])

    def test_the_maker_of_each_group(self):
        for tree in sample_trees():
            parting = parting_of(tree)
            for inner in inner_trees(tree):
                self.assertEqual(maker_of(parting, members(inner)), tree_maker(inner))

    def test_each_person_but_0_makes_one_group(self):
        for tree in sample_trees():
            parting = parting_of(tree)
            makers = sorted(maker_of(parting, group) for group in parting)
            self.assertEqual(makers, list(range(1, len(parting) + 1)))

    def test_the_maker_is_the_greater_of_the_least_persons(self):
        self.assertEqual(maker_of(HALVES, [0, 1, 2, 3]), 2)
        self.assertEqual(maker_of([[0, 1, 2], [0, 2]], [0, 1, 2]), 1)


class DepthsAndLeastGroups(unittest.TestCase):

    def test_the_depth_of_each_person(self):
        for tree in sample_trees():
            parting = parting_of(tree)
            for person in members(tree):
                self.assertEqual(depth_of(parting, person), tree_depth(tree, person))

    def test_depths_at_the_edges(self):
        self.assertEqual(depth_of([], 0), 0)
        self.assertEqual([depth_of([[0, 1]], person) for person in (0, 1)], [1, 1])
        self.assertEqual([depth_of(parting_of(comb(TWENTY)), person) for person in (0, 1, 19)], [19, 19, 1])

    def test_depths_in_all_partings_of_four(self):
        partings = [parting_of(tree) for tree in all_trees([0, 1, 2, 3])]
        for person in range(4):
            depths = [depth_of(parting, person) for parting in partings]
            self.assertEqual([depths.count(depth) for depth in range(4)], [0, 3, 6, 6])

    def test_the_least_group_of_each_two_persons_either_way_about(self):
        for tree in sample_trees():
            parting = parting_of(tree)
            for one, other in permutations(members(tree), 2):
                self.assertEqual(least_group(parting, one, other), tree_least(tree, one, other))

    def test_least_groups_of_the_example(self):
        self.assertEqual(least_group(HALVES, 0, 1), [0, 1])
        self.assertEqual(least_group(HALVES, 3, 2), [2, 3])
        self.assertEqual(least_group(HALVES, 3, 0), [0, 1, 2, 3])
        self.assertEqual(least_group(STAIRS, 2, 0), [0, 1, 2])
        self.assertEqual(least_group([[0, 1]], 1, 0), [0, 1])

    def test_least_groups_in_all_partings_of_four(self):
        partings = [parting_of(tree) for tree in all_trees([0, 1, 2, 3])]
        for one, other in permutations(range(4), 2):
            sizes = [len(least_group(parting, one, other)) for parting in partings]
            self.assertEqual([sizes.count(size) for size in range(5)], [0, 0, 3, 4, 8])


class CutTo(unittest.TestCase):

    def check(self, tree, some):
        left = cut_tree(tree, {person: place for place, person in enumerate(some)})
        found = cut_to(parting_of(tree), some)
        self.assertEqual(found, parting_of(left))
        self.assertIs(is_parting(found), True)

    def test_every_choice_of_persons_of_small_partings(self):
        for tree in small_trees():
            persons = members(tree)
            for many in range(1, len(persons) + 1):
                for some in combinations(persons, many):
                    self.check(tree, list(some))

    def test_partings_of_twenty(self):
        choices = [TWENTY, TWENTY[:10], TWENTY[10:], TWENTY[::2], TWENTY[1::3], [0, 19], [3], [19], TWENTY[1:]]
        for tree in trees_of_twenty():
            for some in choices:
                self.check(tree, some)

    def test_plain_cases(self):
        self.assertEqual(cut_to(HALVES, [0, 1, 2, 3]), HALVES)
        self.assertEqual(cut_to(HALVES, [0, 2, 3]), [[0, 1, 2], [1, 2]])
        self.assertEqual(cut_to(HALVES, [1, 3]), [[0, 1]])
        self.assertEqual(cut_to(HALVES, [3]), [])
        self.assertEqual(cut_to([], [0]), [])
        self.assertEqual(cut_to([[0, 1]], [1]), [])
        self.assertEqual(cut_to([[0, 1, 2, 3], [0, 3], [1, 2]], [0, 2, 3]), [[0, 1, 2], [0, 2]])

    def test_as_many_are_alike_as_result_4_tells(self):
        partings = [parting_of(tree) for tree in all_trees(list(range(6)))]
        for some, many in (([0, 1, 2], 5 * 7 * 9), ([1, 3, 5], 5 * 7 * 9), ([0, 2, 3, 5], 7 * 9), ([4], 945)):
            cuts = [str(cut_to(parting, some)) for parting in partings]
            self.assertEqual({cuts.count(cut) for cut in cuts}, {many})


class Errors(unittest.TestCase):

    def test_no_parting(self):
        wrong = odd_things() + [HALVES[::-1], parting_of(comb(list(range(21)))), [[0, 1], [0, 2]], [[0, 1, 2]]]
        for thing in wrong:
            with self.subTest(str(thing)[:80]):
                self.assertIs(error_of(persons_of, thing), InvalidParting)
                self.assertIs(error_of(parts_of, thing, [0, 1]), InvalidParting)
                self.assertIs(error_of(maker_of, thing, [0, 1]), InvalidParting)
                self.assertIs(error_of(depth_of, thing, 0), InvalidParting)
                self.assertIs(error_of(least_group, thing, 0, 1), InvalidParting)
                self.assertIs(error_of(cut_to, thing, [0]), InvalidParting)

    def test_no_group_of_the_parting(self):
        wrong = [[0, 2], [1, 0], [0, 1, 2], (0, 1), [False, True], [False, 1], [0, True], [2], [0], [], [3, 2]]
        wrong += [[0, 1, 2, 3, 4], [0, 4], [-1, 0], [0, 0], [0, 1, 1], HALVES, [[0, 1]], "[0, 1]", (0, 1, 2, 3)]
        for thing in odd_things() + wrong:
            for call in (parts_of, maker_of):
                with self.subTest(str(thing)[:80]):
                    self.assertIs(error_of(call, HALVES, thing), InvalidGroup)
                    self.assertIs(error_of(call, [], thing), InvalidGroup)

    def test_no_group_of_a_parting_of_twenty(self):
        parting = parting_of(comb(TWENTY))
        for group in ([0, 2], [1, 2], [18, 19], TWENTY[1:], TWENTY + [20], tuple(TWENTY), [False] + TWENTY[1:]):
            self.assertIs(error_of(parts_of, parting, group), InvalidGroup)
            self.assertIs(error_of(maker_of, parting, group), InvalidGroup)

    def test_one_person_alone_has_no_group(self):
        for group in ([], [0], [0, 1]):
            self.assertIs(error_of(parts_of, [], group), InvalidGroup)
            self.assertIs(error_of(maker_of, [], group), InvalidGroup)

    def test_no_person(self):
        for person in BEYOND:
            self.assertIs(error_of(depth_of, HALVES, person), InvalidPerson)
            self.assertIs(error_of(depth_of, [], person), InvalidPerson)
            self.assertIs(error_of(least_group, HALVES, person, 0), InvalidPerson)
            self.assertIs(error_of(least_group, HALVES, 0, person), InvalidPerson)
            self.assertIs(error_of(least_group, HALVES, person, person), InvalidPerson)
        self.assertIs(error_of(depth_of, [], 1), InvalidPerson)
        self.assertIs(error_of(depth_of, [[0, 1]], 2), InvalidPerson)
        self.assertIs(error_of(depth_of, parting_of(comb(TWENTY)), 20), InvalidPerson)
        self.assertIs(error_of(least_group, [[0, 1]], 1, 2), InvalidPerson)

    def test_one_person_twice(self):
        for person in range(4):
            self.assertIs(error_of(least_group, HALVES, person, person), InvalidPerson)
        self.assertIs(error_of(least_group, [], 0, 0), InvalidPerson)

    def test_no_list_of_persons_to_cut_to(self):
        wrong = [[], [0, 4], [4], [-1], [-1, 0], [1, 0], [0, 0], [0, 1, 1], [3, 2, 1, 0], (0, 1), (0,), 0, [True]]
        wrong += [[False], [False, 1], [0, True], [0, None], [[0]], ["0"], [10 ** 30], list(range(5)), TWENTY]
        for thing in odd_things() + wrong:
            with self.subTest(str(thing)[:80]):
                self.assertIs(error_of(cut_to, HALVES, thing), InvalidGroup)
        for thing in odd_things() + [[], [1], [0, 1], [-1], (0,), [False]]:
            self.assertIs(error_of(cut_to, [], thing), InvalidGroup)
        self.assertIs(error_of(cut_to, parting_of(comb(TWENTY)), list(range(21))), InvalidGroup)

    def test_several_wrong_at_once(self):
        for parting in odd_things():
            for group in ([0, 2], None, (0, 1), []):
                self.assertIs(error_of(parts_of, parting, group), InvalidParting)
                self.assertIs(error_of(maker_of, parting, group), InvalidParting)
                self.assertIs(error_of(cut_to, parting, group), InvalidParting)
            for person in BEYOND:
                self.assertIs(error_of(depth_of, parting, person), InvalidParting)
                self.assertIs(error_of(least_group, parting, person, person), InvalidParting)
                self.assertIs(error_of(least_group, parting, 0, person), InvalidParting)
            self.assertIs(error_of(least_group, parting, 0, 0), InvalidParting)

    def test_named_the_other_way_about(self):
        self.assertIs(error_of(parts_of, group=None, parting=None), InvalidParting)
        self.assertIs(error_of(depth_of, person=9, parting=None), InvalidParting)
        self.assertIs(error_of(cut_to, some=None, parting=None), InvalidParting)


if __name__ == "__main__":
    unittest.main()
