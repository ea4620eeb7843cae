"""Points 3, 6 and 14: how far two partings are apart, what lies beside one, and to whom two are alike."""

import unittest
from itertools import combinations, product
from math import comb as chosen

from tests.helpers import (
    TWENTY, all_trees, comb, cut_tree, error_of, exchange_tree, halved, mixed, odd_things, parting_of,
    trees_of_twenty,
)
from twopartings.distances import (
    agreeing, an_agreeing, at_distances, distance, exchanged, neighbours, shows_agreeing,
)
from twopartings.errors import InvalidGroup, InvalidParting, InvalidPerson
from twopartings.told import count_partings, count_with, units_of

HALVES = [[0, 1], [0, 1, 2, 3], [2, 3]]
CHAIN = [[0, 1], [0, 1, 2], [0, 1, 2, 3]]
SMALL = {persons: all_trees(list(range(persons))) for persons in range(1, 7)}


def groups_of(parting):
    return {tuple(group) for group in parting}


def alike(tree, second, some):
    """Whether two trees, each person being called by its own name, are the same one for some persons."""
    names = {person: person for person in some}
    return parting_of(cut_tree(tree, names)) == parting_of(cut_tree(second, names))


def subsets(persons):
    return [list(some) for many in range(1, persons + 1) for some in combinations(range(persons), many)]


def comb_agreeing(one, other):
    """How many persons at most come in the same sequence in both lists, but for the first two of them."""
    place = {person: at for at, person in enumerate(other)}
    best = min(2, len(one))
    for low, high in combinations(range(len(one)), 2):
        floor = max(place[one[low]], place[one[high]])
        longest = {}
        for person in [person for person in one[high + 1:] if place[person] > floor]:
            before = [many for other_one, many in longest.items() if place[other_one] < place[person]]
            longest[person] = 1 + max(before, default=0)
        best = max(best, 2 + max(longest.values(), default=0))
    return best


class Distance(unittest.TestCase):

    def test_all_pairs_of_few_persons(self):
        for persons in range(1, 6):
            partings = [parting_of(tree) for tree in SMALL[persons]]
            for one, other in product(partings, repeat=2):
                self.assertEqual(distance(one, other), len(groups_of(one) - groups_of(other)))

    def test_twenty_persons(self):
        for one, other in product(trees_of_twenty(), repeat=2):
            one, other = parting_of(one), parting_of(other)
            self.assertEqual(distance(one, other), len(groups_of(one) - groups_of(other)))
        self.assertEqual(distance(parting_of(comb(TWENTY)), parting_of(comb(TWENTY[::-1]))), 18)

    def test_by_hand(self):
        self.assertEqual(distance([], []), 0)
        self.assertEqual(distance([[0, 1]], [[0, 1]]), 0)
        self.assertEqual(distance(HALVES, CHAIN), 1)
        self.assertEqual(distance(HALVES, [[0, 1, 2, 3], [0, 2], [1, 3]]), 2)


class AtDistances(unittest.TestCase):

    def test_by_going_through_all_partings(self):
        for persons in range(1, 7):
            partings = [parting_of(tree) for tree in SMALL[persons]]
            named = [groups_of(parting) for parting in partings]
            for one in range(0, len(partings), 1 if persons < 6 else 5):
                found = [0] * max(persons - 1, 1)
                for other in named:
                    found[len(named[one] - other)] += 1
                self.assertEqual(at_distances(partings[one]), found)

    def test_by_choosing_groups_of_nine_persons(self):
        for tree in (halved(TWENTY[:9]), comb([3, 1, 4, 0, 5, 2, 6, 8, 7]), (comb(TWENTY[:4]), halved(TWENTY[4:9]))):
            parting = parting_of(tree)
            inner = [group for group in parting if len(group) < 9]
            ways = [sum(count_with(9, list(some)) for some in combinations(inner, many)) for many in range(8)]
            found = []
            for apart in range(8):
                shared = 7 - apart
                signed = [(-1) ** (at - shared) * chosen(at, shared) * ways[at] for at in range(shared, 8)]
                found.append(sum(signed))
            self.assertEqual(at_distances(parting), found)

    def test_twenty_persons(self):
        for tree in trees_of_twenty():
            parting = parting_of(tree)
            counts = at_distances(parting)
            inner = [group for group in parting if len(group) < 20]
            self.assertEqual(len(counts), 19)
            self.assertEqual(sum(counts), count_partings(20))
            # Counted by what is shared: all groups, pairs and threes of groups that another parting has, too.
            for many in (1, 2, 3):
                ways = sum(count_with(20, list(some)) for some in list(combinations(inner, many)))
                shared = sum(chosen(18 - apart, many) * count for apart, count in enumerate(counts))
                self.assertEqual(shared, ways)

    def test_near_ones_of_twenty(self):
        for tree in trees_of_twenty()[::3]:
            parting = parting_of(tree)
            inner = [group for group in parting if len(group) < 20]
            # Without two of its groups a parting leaves four units at one place, or three at each of two places.
            one_place = 0
            for pair in combinations(inner, 2):
                rest = [group for group in parting if group not in pair]
                one_place += max(len(units_of(20, rest, group)) for group in rest) == 4
            self.assertEqual(at_distances(parting)[:3], [1, 36, 10 * one_place + 4 * (chosen(18, 2) - one_place)])

    def test_few_persons(self):
        self.assertEqual(at_distances([]), [1])
        self.assertEqual(at_distances([[0, 1]]), [1])
        self.assertEqual(at_distances([[0, 1, 2], [1, 2]]), [1, 2])
        self.assertEqual(at_distances(HALVES), [1, 4, 10])
        self.assertEqual(at_distances(CHAIN), [1, 4, 10])


class Exchanged(unittest.TestCase):

    def check(self, tree):
        parting = parting_of(tree)
        for group in [group for group in parting if len(group) <= len(parting)]:
            for person in group:
                found = exchanged(parting, group, person)
                self.assertEqual(found, parting_of(exchange_tree(tree, group, person)))
                self.assertEqual(distance(parting, found), 1)
                new = [other for other in found if other not in parting]
                self.assertEqual(len(new), 1)
                self.assertIn(person, new[0])
                # The person who moved away comes back.
                self.assertEqual(exchanged(found, new[0], person), parting)

    def test_all_partings_of_few_persons(self):
        for persons in range(1, 7):
            for tree in SMALL[persons]:
                self.check(tree)

    def test_twenty_persons(self):
        for tree in trees_of_twenty():
            self.check(tree)

    def test_the_example(self):
        self.assertEqual(exchanged([[0, 1], [0, 1, 2]], [0, 1], 1), [[0, 1, 2], [1, 2]])
        self.assertEqual(exchanged([[0, 1], [0, 1, 2]], [0, 1], 0), [[0, 1, 2], [0, 2]])
        self.assertEqual(exchanged(HALVES, [2, 3], 3), [[0, 1], [0, 1, 2, 3], [0, 1, 3]])
        self.assertEqual(exchanged(CHAIN, [0, 1, 2], 1), [[0, 1], [0, 1, 2, 3], [0, 1, 3]])
        self.assertEqual(exchanged(CHAIN, [0, 1, 2], 2), HALVES)

    def test_groups_that_cannot_be_exchanged(self):
        for group in ([0, 1, 2, 3], [0, 2], [1, 2, 3], [0], [], [1, 0], [0, 4], (0, 1), None, [[0, 1]], [False, 1]):
            for person in (0, 1, 9):
                self.assertIs(error_of(exchanged, HALVES, group, person), InvalidGroup)
        for parting in ([], [[0, 1]]):
            for group in ([0, 1], [], [0]):
                self.assertIs(error_of(exchanged, parting, group, 0), InvalidGroup)
        self.assertIs(error_of(exchanged, parting_of(comb(TWENTY)), TWENTY, 0), InvalidGroup)

    def test_persons_beside_the_group(self):
        for person in (2, 3, 4, -1, 20, 10 ** 30):
            self.assertIs(error_of(exchanged, HALVES, [0, 1], person), InvalidPerson)
        for person in (0, 1, -2, 4):
            self.assertIs(error_of(exchanged, HALVES, [2, 3], person), InvalidPerson)


class Neighbours(unittest.TestCase):

    def test_all_partings_of_few_persons(self):
        for persons in range(1, 7):
            partings = [parting_of(tree) for tree in SMALL[persons]]
            named = [(groups_of(parting), parting) for parting in partings]
            for groups, parting in named[::1 if persons < 6 else 9]:
                beside = sorted(other for others, other in named if len(groups - others) == 1)
                self.assertEqual(neighbours(parting), beside)

    def test_twenty_persons(self):
        for tree in trees_of_twenty():
            parting = parting_of(tree)
            found = neighbours(parting)
            exchanges = []
            for group in parting:
                if len(group) < 20:
                    exchanges += [parting_of(exchange_tree(tree, group, person)) for person in group]
            self.assertEqual(len(found), 36)
            self.assertEqual(found, sorted(found))
            self.assertEqual({str(other) for other in found}, {str(other) for other in exchanges})
            self.assertEqual(len({str(other) for other in found}), 36)

    def test_one_person_to_three(self):
        self.assertEqual(neighbours([]), [])
        self.assertEqual(neighbours([[0, 1]]), [])
        self.assertEqual(neighbours([[0, 1], [0, 1, 2]]), [[[0, 1, 2], [0, 2]], [[0, 1, 2], [1, 2]]])


class Agreeing(unittest.TestCase):

    def check_all(self, persons, pairs):
        some = subsets(persons)
        cut = {}
        for tree in {tree for pair in pairs for tree in pair}:
            names = [{person: person for person in few} for few in some]
            cut[tree] = [str(parting_of(cut_tree(tree, few))) for few in names]
        for one, other in pairs:
            fits = [few for few, low, high in zip(some, cut[one], cut[other]) if low == high]
            parting, second = parting_of(one), parting_of(other)
            self.assertEqual(agreeing(parting, second), max(map(len, fits)))
            self.assertIn(an_agreeing(parting, second), fits)
            self.assertEqual(len(an_agreeing(parting, second)), max(map(len, fits)))
            for few in some[::1 if persons < 5 else 7]:
                self.assertIs(shows_agreeing(parting, second, few), few in fits)

    def test_all_pairs_of_few_persons(self):
        for persons in range(1, 5):
            self.check_all(persons, list(product(SMALL[persons], repeat=2)))

    def test_some_pairs_of_five_and_six(self):
        self.check_all(5, list(product(SMALL[5][::2], SMALL[5][::5])))
        self.check_all(6, list(product(SMALL[6][::40], SMALL[6][::61])))

    def test_some_pairs_of_nine(self):
        orders = [mixed(TWENTY[:9], seed) for seed in range(1, 6)]
        trees = [comb(orders[0]), halved(orders[1]), (comb(orders[2][:5]), halved(orders[2][5:])), halved(orders[3])]
        trees.append((halved(orders[4][:2]), comb(orders[4][2:])))
        self.check_all(9, list(product(trees, repeat=2)))

    def test_combs_of_twenty(self):
        orders = [TWENTY, TWENTY[::-1], TWENTY[10:] + TWENTY[:10], TWENTY[::2] + TWENTY[1::2]]
        orders += [mixed(TWENTY, seed) for seed in range(1, 8)]
        for one, other in product(orders, repeat=2):
            parting, second = parting_of(comb(one)), parting_of(comb(other))
            many = comb_agreeing(one, other)
            self.assertEqual(agreeing(parting, second), many)
            found = an_agreeing(parting, second)
            self.assertEqual(len(found), many)
            self.assertIs(shows_agreeing(parting, second, found), True)
            self.assertIs(alike(comb(one), comb(other), found), True)
        self.assertEqual(agreeing(parting_of(comb(TWENTY)), parting_of(comb(TWENTY[::-1]))), 2)

    def test_twenty_persons(self):
        trees = trees_of_twenty()
        for one, other in list(product(trees, repeat=2))[::3]:
            parting, second = parting_of(one), parting_of(other)
            many, found = agreeing(parting, second), an_agreeing(parting, second)
            self.assertEqual((len(found), found), (many, sorted(set(found))))
            self.assertIs(alike(one, other, found), True)
            self.assertIs(shows_agreeing(parting, second, found), True)
            self.assertEqual(agreeing(second, parting), many)
            self.assertEqual(an_agreeing(parting, second), found)
            # With one person more they are not alike.
            for person in TWENTY:
                if person not in found:
                    more = sorted(found + [person])
                    self.assertIs(shows_agreeing(parting, second, more), False)
                    self.assertIs(alike(one, other, more), False)

    def test_a_parting_agrees_with_itself_wholly(self):
        for tree in trees_of_twenty() + [SMALL[many][0] for many in SMALL]:
            parting = parting_of(tree)
            everyone = list(range(len(parting) + 1))
            self.assertEqual(agreeing(parting, parting), len(everyone))
            self.assertEqual(an_agreeing(parting, parting), everyone)
            for some in (everyone, everyone[:1], everyone[-1:], everyone[::3]):
                self.assertIs(shows_agreeing(parting, parting, some), True)

    def test_a_part_that_is_alike(self):
        # Eleven persons are parted alike, the other nine in the least alike way.
        alike_part, first, second = halved(TWENTY[:11]), comb(TWENTY[11:]), comb(TWENTY[:10:-1])
        one, other = parting_of((alike_part, first)), parting_of((alike_part, second))
        self.assertEqual(agreeing(one, other), 13)
        self.assertEqual(an_agreeing(one, other)[:11], TWENTY[:11])

    def test_one_person_or_two_are_always_alike(self):
        for one, other in product(trees_of_twenty()[:6], repeat=2):
            parting, second = parting_of(one), parting_of(other)
            for some in ([0], [19], [0, 19], [7, 8]):
                self.assertIs(shows_agreeing(parting, second, some), True)
        self.assertEqual((agreeing([], []), an_agreeing([], [])), (1, [0]))
        self.assertIs(shows_agreeing([], [], [0]), True)
        self.assertEqual((agreeing([[0, 1]], [[0, 1]]), an_agreeing([[0, 1]], [[0, 1]])), (2, [0, 1]))

    def test_any_object_shows_it_or_not(self):
        things = [
            [], [0, 0], [1, 0], [0, 4], [-1, 0], [4], [-1], [0, True], [False, 1], [True], (0, 1), (0,),
            [0, 1, 2, 3, 4], [[0]], [[0, 1]], ["0"], [None], {0: 1}, [0, 2.0], 0, 10 ** 30, [10 ** 30],
        ]
        for thing in things + odd_things():
            self.assertIs(shows_agreeing(HALVES, HALVES, thing), False)
            self.assertIs(shows_agreeing([], [], thing), False)
        for thing in odd_things() + [TWENTY + [20], TWENTY[::-1], [20]]:
            self.assertIs(shows_agreeing(parting_of(comb(TWENTY)), parting_of(comb(TWENTY)), thing), False)


class Second(unittest.TestCase):

    def test_second_is_a_parting_of_as_many_persons(self):
        calls = ((distance, ()), (agreeing, ()), (an_agreeing, ()), (shows_agreeing, ([0],)), (shows_agreeing, (None,)))
        whole = parting_of(comb(TWENTY))
        wrong = [[], [[0, 1]], [[0, 1], [0, 1, 2]], parting_of(comb(TWENTY[:5])), whole, HALVES[::-1]]
        for call, given in calls:
            self.assertIsNone(error_of(call, HALVES, CHAIN, *given))
            for second in wrong + odd_things():
                self.assertIs(error_of(call, HALVES, second, *given), InvalidParting)
            for parting in HALVES[:2], HALVES[::-1], None, [[0, 1, 2, 3]]:
                self.assertIs(error_of(call, parting, CHAIN, *given), InvalidParting)
                self.assertIs(error_of(call, parting, parting, *given), InvalidParting)
            self.assertIs(error_of(call, [], [[0, 1]], *given), InvalidParting)
            self.assertIs(error_of(call, whole, parting_of(comb(TWENTY[:19])), *given), InvalidParting)


if __name__ == "__main__":
    unittest.main()
