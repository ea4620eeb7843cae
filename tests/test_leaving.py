"""Points 3, 4 and 12: who leaves, who enters, and who leaves no trace."""

import unittest
from itertools import product
from math import comb as chosen

from tests.helpers import (
    TWENTY, all_trees, comb, comings_of_twenty, enter_tree, error_of, free_persons, halved, mean, mixed, parting_of,
    share, tree_by, tree_without, trees_of_twenty,
)
from twopartings.comings import coming_of, parting_by
from twopartings.errors import InvalidNode, InvalidParting, InvalidPerson, NoPerson
from twopartings.leaving import (
    coming_without, entered, is_traceless, traceless, traceless_counts, traceless_share, without,
)
from twopartings.partings import cut_to
from twopartings.told import count_partings


def all_comings(persons):
    return [list(coming) for coming in product(*[range(-at, at + 1) for at in range(persons - 1)])]


def shortened(coming, person):
    """The coming list without the item of a person who leaves no trace, as result R5 has it."""
    kept = coming[:person - 1] + coming[person:]
    return [item - (item > person) + (item < -person) for item in kept]


class Without(unittest.TestCase):

    def check(self, tree, persons, leaving):
        parting = parting_of(tree)
        coming = coming_of(parting)
        for person in leaving:
            left = without(parting, person)
            self.assertEqual(left, parting_of(tree_without(tree, persons, person)))
            self.assertEqual(left, cut_to(parting, [other for other in range(persons) if other != person]))
            self.assertEqual(coming_without(coming, person), coming_of(left))

    def test_all_partings_of_two_to_six(self):
        for persons in range(2, 7):
            for tree in all_trees(list(range(persons))):
                self.check(tree, persons, range(persons))

    def test_twenty_persons(self):
        for tree in trees_of_twenty():
            self.check(tree, 20, TWENTY)

    def test_one_after_another(self):
        for seed, tree in enumerate(trees_of_twenty()):
            parting, coming = parting_of(tree), coming_of(parting_of(tree))
            for persons, number in zip(range(20, 1, -1), mixed(TWENTY, seed)):
                person = number % persons
                tree = tree_without(tree, persons, person)
                parting, coming = without(parting, person), coming_without(coming, person)
                self.assertEqual(parting, parting_of(tree))
                self.assertEqual(coming, coming_of(parting))
            self.assertEqual((parting, coming), ([], []))
            self.assertIs(error_of(without, parting, 0), NoPerson)
            self.assertIs(error_of(coming_without, coming, 0), NoPerson)

    def test_who_leaves_no_trace_takes_only_its_item_along(self):
        comings = [coming for persons in range(2, 7) for coming in all_comings(persons)] + comings_of_twenty()
        for coming in comings:
            for person in free_persons(coming):
                self.assertEqual(coming_without(coming, person), shortened(coming, person))

    def test_examples(self):
        self.assertEqual(coming_without([0, 0, -1], 1), [0, -1])
        self.assertEqual(without([[0, 1], [0, 1, 2, 3], [2, 3]], 2), [[0, 1], [0, 1, 2]])
        self.assertEqual(without([[0, 1]], 0), [])
        self.assertEqual(without([[0, 1]], 1), [])
        self.assertEqual(coming_without([0], 0), [])
        self.assertEqual(without(parting_of(comb(TWENTY)), 0), parting_of(comb(TWENTY[:19])))

    def test_one_person_alone(self):
        self.assertIs(error_of(without, [], 0), NoPerson)
        self.assertIs(error_of(coming_without, [], 0), NoPerson)
        for person in (1, -1, 20, 10 ** 30):
            self.assertIs(error_of(without, [], person), InvalidPerson)
            self.assertIs(error_of(coming_without, [], person), InvalidPerson)


class Entered(unittest.TestCase):

    def test_all_partings_of_up_to_five_and_all_items(self):
        for persons in range(1, 6):
            found = []
            for tree in all_trees(list(range(persons))):
                parting = parting_of(tree)
                for node in range(1 - persons, persons):
                    more = entered(parting, node)
                    self.assertEqual(more, parting_of(enter_tree(tree, node, persons)))
                    self.assertEqual(coming_of(more), coming_of(parting) + [node])
                    self.assertEqual(without(more, persons), parting)
                    found.append(more)
            every = [parting_of(tree) for tree in all_trees(list(range(persons + 1)))]
            self.assertEqual(sorted(found), sorted(every))

    def test_items_that_there_are(self):
        for persons in range(1, 20):
            parting = parting_of(halved(TWENTY[:persons]))
            for node in (1 - persons, persons - 1):
                self.assertEqual(len(entered(parting, node)), persons)
            for node in (-persons, persons, persons + 1, 10 ** 30, -(10 ** 30)):
                self.assertIs(error_of(entered, parting, node), InvalidNode)

    def test_up_to_twenty(self):
        for coming in comings_of_twenty():
            parting = []
            for at, node in enumerate(coming):
                self.assertEqual(without(entered(parting, node), at + 1), parting)
                parting = entered(parting, node)
            self.assertEqual(parting, parting_of(tree_by(coming)))
            for node in (0, 19, -19, 20, 99):
                self.assertIs(error_of(entered, parting, node), InvalidParting)

    def test_leaving_and_coming_back(self):
        for tree in trees_of_twenty():
            parting = parting_of(tree)
            self.assertEqual(entered(without(parting, 19), coming_of(parting)[-1]), parting)


class Traceless(unittest.TestCase):

    def test_by_the_items(self):
        comings = [coming for persons in range(1, 7) for coming in all_comings(persons)] + comings_of_twenty()
        for coming in comings:
            free = free_persons(coming)
            parting = parting_by(coming)
            self.assertEqual(traceless(parting), free)
            for person in range(len(coming) + 1):
                self.assertIs(is_traceless(parting, person), person in free)

    def test_person_zero_only_if_it_is_alone(self):
        self.assertEqual(traceless([]), [0])
        self.assertIs(is_traceless([], 0), True)
        self.assertEqual(traceless([[0, 1]]), [1])
        for persons in range(2, 21):
            # Here no item is 0, but that of person 1.
            parting = parting_by([0] + [-1] * (persons - 2))
            self.assertIs(is_traceless(parting, 0), False)
            self.assertNotIn(0, traceless(parting))

    def test_the_last_one_leaves_no_trace(self):
        for tree in trees_of_twenty():
            self.assertIs(is_traceless(parting_of(tree), 19), True)
        self.assertEqual(traceless(parting_by([0] * 19)), TWENTY[1:])
        self.assertEqual(traceless(parting_by(TWENTY[:19])), [19])
        self.assertEqual(traceless(parting_by([-at for at in range(19)])), [19])

    def test_the_example(self):
        parting = parting_by([0, 0, -1])
        self.assertIs(is_traceless(parting, 1), False)
        self.assertEqual(traceless(parting), [2, 3])

    def test_shares_by_going_through_all_partings(self):
        for persons in range(1, 8):
            free = [free_persons(coming) for coming in all_comings(persons)]
            for person in range(persons):
                self.assertEqual(traceless_share(persons, person), mean([person in some for some in free]))

    def test_shares_by_the_items_that_are_left(self):
        for persons in range(2, 21):
            self.assertEqual(traceless_share(persons, 0), (0, 1))
            for person in range(1, persons):
                top = bottom = 1
                for other in range(1, persons):
                    bottom *= 2 * other - 1
                    top *= 2 * other - 1 - 2 * (other > person)
                self.assertEqual(traceless_share(persons, person), share(top, bottom))
        self.assertEqual(traceless_share(1, 0), (1, 1))


class Counts(unittest.TestCase):

    def by_choosing(self, persons):
        """The counts, from how many partings there are in which some chosen persons leave no trace."""
        ways = [1]
        for person in range(1, persons):
            # The items of this person that name nobody chosen; then it is itself chosen or not.
            items = [many * (2 * person - 1 - 2 * at) for at, many in enumerate(ways)]
            ways = [one + other for one, other in zip(items + [0], [0] + items)]
        found = []
        for free in range(persons + 1):
            signed = [(-1) ** (at - free) * chosen(at, free) * many for at, many in enumerate(ways) if at >= free]
            found.append(sum(signed))
        return found

    def test_by_going_through_all_partings(self):
        for persons in range(1, 8):
            free = [len(free_persons(coming)) for coming in all_comings(persons)]
            self.assertEqual(traceless_counts(persons), [free.count(many) for many in range(persons + 1)])

    def test_by_choosing_persons(self):
        for persons in range(2, 21):
            self.assertEqual(traceless_counts(persons), self.by_choosing(persons))

    def test_all_partings_are_counted(self):
        for persons in range(1, 21):
            counts = traceless_counts(persons)
            self.assertEqual(len(counts), persons + 1)
            self.assertEqual(sum(counts), count_partings(persons))
            self.assertEqual(counts[persons], int(persons == 1))
            self.assertEqual(counts[0], 0)

    def test_the_mean_is_the_sum_of_the_shares(self):
        for persons in range(1, 21):
            named = sum(many * count for many, count in enumerate(traceless_counts(persons)))
            tops = [traceless_share(persons, person) for person in range(persons)]
            total = count_partings(persons)
            self.assertEqual(named, sum(top * total // bottom for top, bottom in tops))

    def test_few_persons(self):
        self.assertEqual(traceless_counts(1), [0, 1])
        self.assertEqual(traceless_counts(2), [0, 1, 0])
        self.assertEqual(traceless_counts(3), [0, 2, 1, 0])
        self.assertEqual(traceless_counts(4), [0, 4, 10, 1, 0])


if __name__ == "__main__":
    unittest.main()
