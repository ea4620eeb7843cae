"""Points 3 and 8: the pairs of a parting, and the parting that they come from."""

import unittest

from tests.helpers import (
    TWENTY, all_trees, comb, comings_of_twenty, error_of, halved, inner_trees, members, odd_things, parting_of,
    trees_of_twenty,
)
from twopartings.comings import coming_of, parting_by
from twopartings.errors import InvalidPairs, InvalidParting
from twopartings.pairings import is_pairing, pairs_of, parting_by_pairs
from twopartings.partings import is_parting

EXAMPLES = [
    ([], []),
    ([[0, 1]], [(0, 1)]),
    ([[0, 1], [0, 1, 2]], [(0, 1), (2, 3)]),
    ([[0, 1, 2], [0, 2]], [(0, 2), (1, 3)]),
    ([[0, 1, 2], [1, 2]], [(0, 3), (1, 2)]),
    ([[0, 1], [0, 1, 2, 3], [2, 3]], [(0, 1), (2, 3), (4, 5)]),
    ([[0, 1], [0, 1, 2], [0, 1, 2, 3]], [(0, 1), (2, 4), (3, 5)]),
]
WRONG = [
    [(1, 0)], [(0, 0)], [(0, 2)], [(1, 2)], [(-1, 0)], [(0, 10 ** 30)], [(0, 1), (0, 1)], [(0, 1), (1, 2)],
    [(2, 3), (0, 1)], [(0, 1), (2, 4)], [(0, 1), (3, 2)], [(0, 3), (2, 1)], [(1, 2), (0, 3)], [(0, 1), (4, 5)],
    [(0, 1), (2, 3), (4, 6)], [(0, 1), (4, 5), (2, 3)], [(0, 1), (2, 3), (2, 3)], [(0, 1), (3, 4)], [(0, 1), (2, 2)],
    [[0, 1]], ((0, 1),), (), [(0, 1, 2)], [(0,), (1,)], [()], [(0, 1, 2, 3)], [(0, 1), [2, 3]], [(0, 1), (2, 3), ()],
    [(0, 1, 2), (3,)], [(0,), (1, 2, 3)], [(), (0, 1, 2, 3)], [(0, 1, 2, 3), ()], [(0, 1), (2, 3, 4), (5,)],
    [(0, 1), (2, 3, 4)], [(0, 1), 2, 3], [0, 1], [(False, 1)], [(0, True)], [(0, True), (2, 3)], [(0, None)],
    [("0", "1")], [(0, "1")], [((0,), (1,))], [(0, 1), None], [(0, 1), (2, (3,))], {}, {"0": 1}, "01", [{}],
    [(2 * at, 2 * at + 1) for at in range(20)], [(at, 39 - at) for at in range(20)], [(0, 1)] * 700,
]


def no_pairings():
    return [thing for thing in odd_things() if thing != [(0, 1)]] + WRONG


def tree_pairs(tree):
    """The pairs, word by word as point 3 has them."""
    numbers = {(person,): person for person in members(tree)}
    inner = inner_trees(tree)

    def both(group):
        return sorted(numbers[tuple(members(part))] for part in group)

    def ready(group):
        return tuple(members(group)) not in numbers and all(tuple(members(part)) in numbers for part in group)

    while any(ready(group) for group in inner[1:]):
        group = min([group for group in inner[1:] if ready(group)], key=lambda group: both(group)[0])
        numbers[tuple(members(group))] = len(numbers)
    return sorted(tuple(both(group)) for group in inner)


def all_pairings(numbers):
    """All lists of pairs with each of these numbers once, ascending."""
    if not numbers:
        return [[]]
    found = []
    for at in range(1, len(numbers)):
        found += [[(numbers[0], numbers[at])] + more for more in all_pairings(numbers[1:at] + numbers[at + 1:])]
    return found


def pairings_of_twenty():
    """Lists of the pairs of twenty persons: the least, the greatest and others."""
    found = [[(2 * at, 2 * at + 1) for at in range(19)], [(at, 37 - at) for at in range(19)]]
    found += [[(at, at + 19) for at in range(19)]]
    for seed in range(1, 12):
        free, pairs = list(range(38)), []
        while free:
            other = 1 + (seed * 17 + len(free) * len(free) * 5) % (len(free) - 1)
            pairs.append((free[0], free[other]))
            free = free[1:other] + free[other + 1:]
        found.append(pairs)
    return found


class IsPairing(unittest.TestCase):

    def test_each_list_of_up_to_six_persons(self):
        for persons in range(1, 7):
            for pairs in all_pairings(list(range(2 * persons - 2))):
                self.assertIs(is_pairing(pairs), True)

    def test_from_none_to_nineteen(self):
        for many in range(20):
            self.assertIs(is_pairing([(2 * at, 2 * at + 1) for at in range(many)]), True)
            self.assertIs(is_pairing([(at, 2 * many - 1 - at) for at in range(many)]), True)
        for many in (20, 21, 100):
            self.assertIs(is_pairing([(2 * at, 2 * at + 1) for at in range(many)]), False)
        for pairs in pairings_of_twenty():
            self.assertIs(is_pairing(pairs), True)

    def test_any_object(self):
        for thing in no_pairings():
            with self.subTest(str(thing)[:80]):
                self.assertIs(is_pairing(thing), False)

    def test_one_thing_wrong_among_nineteen_pairs(self):
        for pairs in pairings_of_twenty():
            for at, (lesser, greater) in enumerate(pairs):
                for pair in ((greater, lesser), [lesser, greater], (lesser, lesser), (lesser, greater + 1), (lesser,)):
                    self.assertIs(is_pairing(pairs[:at] + [pair] + pairs[at + 1:]), False)
                self.assertIs(is_pairing(pairs[:at] + pairs[at + 1:]), lesser == 36)
                self.assertIs(is_pairing(pairs[at + 1:] + pairs[:at + 1]), at == 18)
                self.assertIs(is_pairing(pairs[:at] + [(lesser, greater)] + pairs[at:]), False)


class ThereAndBack(unittest.TestCase):

    def test_examples(self):
        for parting, pairs in EXAMPLES:
            self.assertEqual(pairs_of(parting), pairs)
            self.assertEqual(parting_by_pairs(pairs), parting)

    def test_word_by_word(self):
        small = [tree for persons in range(1, 7) for tree in all_trees(list(range(persons)))]
        for tree in small + trees_of_twenty():
            pairs = pairs_of(parting_of(tree))
            self.assertEqual(pairs, tree_pairs(tree))
            self.assertEqual({type(pair) for pair in pairs} | {tuple}, {tuple})
            self.assertIs(is_pairing(pairs), True)
            self.assertEqual(parting_by_pairs(pairs), parting_of(tree))

    def test_each_list_once(self):
        for persons in range(1, 7):
            expected = all_pairings(list(range(2 * persons - 2)))
            found = [pairs_of(parting_of(tree)) for tree in all_trees(list(range(persons)))]
            self.assertEqual(sorted(found), expected)

    def test_each_list_leads_to_a_parting_and_back(self):
        for persons in range(1, 7):
            for pairs in all_pairings(list(range(2 * persons - 2))):
                parting = parting_by_pairs(pairs)
                self.assertIs(is_parting(parting), True)
                self.assertEqual(len(parting), persons - 1)
                self.assertEqual(pairs_of(parting), pairs)

    def test_twenty_persons(self):
        for pairs in pairings_of_twenty():
            parting = parting_by_pairs(pairs)
            self.assertIs(is_parting(parting), True)
            self.assertEqual(pairs_of(parting), pairs)
        for coming in comings_of_twenty():
            self.assertEqual(parting_by_pairs(pairs_of(parting_by(coming))), parting_by(coming))

    def test_combs_and_halves_of_twenty(self):
        stairs = [(0, 1)] + [(at, at + 18) for at in range(2, 20)]
        self.assertEqual(pairs_of(parting_of(comb(TWENTY))), stairs)
        self.assertEqual(parting_by_pairs(stairs), parting_of(comb(TWENTY)))
        sixteen = pairs_of(parting_of(halved(list(range(16)))))
        self.assertEqual(sixteen, [(2 * at, 2 * at + 1) for at in range(15)])

    def test_along_with_coming_lists(self):
        for persons in range(1, 7):
            for pairs in all_pairings(list(range(2 * persons - 2))):
                coming = coming_of(parting_by_pairs(pairs))
                self.assertEqual(pairs_of(parting_by(coming)), pairs)


class Errors(unittest.TestCase):

    def test_no_pairs(self):
        for thing in no_pairings():
            with self.subTest(str(thing)[:80]):
                self.assertIs(error_of(parting_by_pairs, thing), InvalidPairs)
                self.assertIs(error_of(parting_by_pairs, pairs=thing), InvalidPairs)

    def test_no_parting(self):
        wrong = [[(0, 1), (2, 3)], [[0, 1], [0, 2]], [[0, 1, 2]], [[0, 1, 2], [0, 1]], [[False, 1]], ([0, 1],)]
        for thing in odd_things() + wrong + [parting_of(comb(list(range(21))))]:
            with self.subTest(str(thing)[:80]):
                self.assertIs(error_of(pairs_of, thing), InvalidParting)


if __name__ == "__main__":
    unittest.main()
