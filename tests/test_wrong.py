"""Points 2, 5 and 8 to 11: which error is raised, where one argument is wrong and where several are."""

import unittest
from itertools import combinations, product

from tests.helpers import TWENTY, all_groups, comb, error_of, odd_things, parting_of
from twopartings.errors import (
    Crossing, InvalidGroup, InvalidGroups, InvalidIndex, InvalidNumber, InvalidPairs, InvalidParting, InvalidPerson,
    InvalidPersons, Lacking,
)
from twopartings.numbers import (
    index_by_pairs, index_with, next_parting, nth_by_pairs, nth_parting, nth_with, parting_index,
)
from twopartings.pairings import pairs_of, parting_by_pairs
from twopartings.shares import (
    depth_shares, first_shares, mean_depth, mean_groups, meet_shares, pair_shares, triple_share,
)
from twopartings.told import count_partings, count_with, crossing, group_share, share_with, units_of

HALVES = [[0, 1], [0, 1, 2, 3], [2, 3]]
CROSSING = [[2, 3], [0, 1], [1, 2]]
FAR = [10 ** 30, -(10 ** 30)]
# Of four persons: for each argument a right value, and wrong ones with their error.
RIGHT = {
    "persons": 4, "told": [[0, 1]], "group": [0, 1], "one": 0, "other": 1, "third": 2, "person": 3, "size": 3,
    "index": 2, "parting": HALVES, "pairs": [(0, 1), (2, 3), (4, 5)],
}
WRONG = {
    "persons": ([0, -1, 21, 22] + FAR, InvalidPersons),
    "told": ([
        None, 0, "", (), ([0, 1],), {}, {"0": [0, 1]}, [None], [0, 1], [[]], [[0]], [[0, 1], []], [[0, 1], [3]],
        [[0, 4]], [[-1, 0]], [[1, 0]], [[0, 0]], [[0, 1, 1]], [[2, 1, 0]], [(0, 1)], [[0, 1], (2, 3)], [[0, True]],
        [[False, 1]], [[0, 1], [2, None]], [[0, "1"]], [[0, 1], [0, 1]], [[0, 1], [2, 3], [0, 1]],
        CROSSING + [[0, 1]], CROSSING + [[0, 9]], [[0, 1], {}], [[[0, 1]]], [[0, [1]]], HALVES + [[0, 1, 2, 3]],
    ], InvalidGroups),
    "group": ([
        None, 0, "", (0, 1), {}, [], [0], [3], [0, 4], [-1, 0], [1, 0], [0, 0], [0, True], [False, 1], [0, "1"],
        [[0, 1]], [0, [1]], [0, 1, 2, 3, 4], [0, None],
    ], InvalidGroup),
    "one": ([-1, 4, 5, 20] + FAR, InvalidPerson),
    "other": ([-1, 4, 5, 20] + FAR, InvalidPerson),
    "third": ([-1, 4, 5, 20] + FAR, InvalidPerson),
    "person": ([-1, 4, 5, 20] + FAR, InvalidPerson),
    "size": ([1, 0, -1, -2, 5, 21] + FAR, InvalidNumber),
    "index": ([-1, 15, 16] + FAR, InvalidIndex),
    "parting": ([
        None, 0, "", (), {}, [[0]], [[1, 0]], [[0, 1], [1, 2]], HALVES[::-1], [(0, 1)], [[False, 1]], [[0, 1, 2]],
        parting_of(comb(list(range(21)))),
    ], InvalidParting),
    "pairs": ([None, 0, "", (), {}, [[0, 1]], [(1, 0)], [(0, 2)], [(0, True)], [(2, 3), (0, 1)]], InvalidPairs),
}
NO_FAMILY_NEEDED = [
    (count_partings, ["persons"]), (crossing, ["persons", "told"]), (count_with, ["persons", "told"]),
    (share_with, ["persons", "told"]), (nth_parting, ["persons", "index"]), (nth_by_pairs, ["persons", "index"]),
    (parting_index, ["parting"]), (next_parting, ["parting"]), (index_by_pairs, ["parting"]),
    (pairs_of, ["parting"]), (parting_by_pairs, ["pairs"]),
]
FAMILY_NEEDED = [
    (units_of, ["persons", "told", "group"]), (group_share, ["persons", "told", "group"]),
    (nth_with, ["persons", "told", "index"]), (index_with, ["parting", "told"]),
    (triple_share, ["persons", "told", "one", "other", "third"]), (depth_shares, ["persons", "told", "person"]),
    (mean_depth, ["persons", "told", "person"]), (meet_shares, ["persons", "told", "one", "other"]),
    (pair_shares, ["persons", "told"]), (mean_groups, ["persons", "told", "size"]), (first_shares, ["persons", "told"]),
]


def expected_error(names, given, needs_family):
    """The error that point 2 has for these arguments."""
    for name in names:
        if name != "index" and any(given[name] is thing for thing in WRONG[name][0]):
            return WRONG[name][1]
    if needs_family and given["told"] is CROSSING:
        return Crossing
    if "index" in names and given["index"] in WRONG["index"][0]:
        return InvalidIndex
    return None


class OneWrong(unittest.TestCase):

    def test_nothing_wrong(self):
        for function, names in NO_FAMILY_NEEDED + FAMILY_NEEDED:
            self.assertIsNone(error_of(function, *[RIGHT[name] for name in names]))

    def test_each_argument_by_itself(self):
        for function, names in NO_FAMILY_NEEDED + FAMILY_NEEDED:
            for name in names:
                things, error = WRONG[name]
                for thing in things:
                    with self.subTest((function.__name__, name, str(thing)[:80])):
                        given = {other: RIGHT[other] for other in names}
                        given[name] = thing
                        self.assertIs(error_of(function, *given.values()), error)
                        self.assertIs(error_of(function, **given), error)

    def test_any_object_as_told_and_group(self):
        for thing in odd_things():
            for function, names in NO_FAMILY_NEEDED + FAMILY_NEEDED:
                for name in {"told", "group", "parting"} & set(names):
                    for persons in (1, 2, 4, 20):
                        with self.subTest((function.__name__, name, str(thing)[:80])):
                            given = {other: RIGHT[other] for other in names}
                            given.update({other: persons for other in ("persons",) if other in names})
                            given.update({other: [] for other in ("told",) if other in names and name == "group"})
                            given[name] = thing
                            self.assertIs(error_of(function, **given), WRONG[name][1])

    def test_a_boolean_is_no_integer(self):
        for thing in (True, False):
            self.assertIs(error_of(count_partings, thing), InvalidPersons)
            self.assertIs(error_of(depth_shares, 4, [], thing), InvalidPerson)
            self.assertIs(error_of(nth_with, 4, [], thing), InvalidIndex)
        self.assertIs(error_of(mean_groups, 4, [], True), InvalidNumber)

    def test_one_person_twice(self):
        for told in ([], [[0, 1]], HALVES, CROSSING):
            for person in range(4):
                others = [other for other in range(4) if other != person]
                self.assertIs(error_of(meet_shares, 4, told, person, person), InvalidPerson)
                for other in others:
                    self.assertIs(error_of(triple_share, 4, told, person, person, other), InvalidPerson)
                    self.assertIs(error_of(triple_share, 4, told, person, other, person), InvalidPerson)
                    self.assertIs(error_of(triple_share, 4, told, other, person, person), InvalidPerson)
                self.assertIs(error_of(triple_share, 4, told, person, person, person), InvalidPerson)

    def test_small_companies(self):
        self.assertIs(error_of(meet_shares, 1, [], 0, 0), InvalidPerson)
        self.assertIs(error_of(meet_shares, 1, [], 0, 1), InvalidPerson)
        self.assertIs(error_of(triple_share, 2, [], 0, 1, 0), InvalidPerson)
        self.assertIs(error_of(triple_share, 2, [], 0, 1, 2), InvalidPerson)
        self.assertIs(error_of(depth_shares, 1, [], 1), InvalidPerson)
        self.assertIs(error_of(mean_depth, 1, [], 1), InvalidPerson)
        for size in range(-1, 4):
            self.assertIs(error_of(mean_groups, 1, [], size), InvalidNumber)
        for group in ([0], [], [0, 1]):
            self.assertIs(error_of(units_of, 1, [], group), InvalidGroup)
            self.assertIs(error_of(group_share, 1, [], group), InvalidGroup)
            self.assertIs(error_of(count_with, 1, [group]), InvalidGroups)
        self.assertIs(error_of(nth_parting, 1, 1), InvalidIndex)
        self.assertIs(error_of(nth_with, 1, [], 1), InvalidIndex)
        self.assertIs(error_of(nth_by_pairs, 2, 1), InvalidIndex)

    def test_limits_for_each_number_of_persons(self):
        for persons in range(2, 21):
            for person in (0, persons - 1):
                self.assertIsNone(error_of(depth_shares, persons, [], person))
            for person in (-1, persons):
                self.assertIs(error_of(depth_shares, persons, [], person), InvalidPerson)
            for size in (2, persons):
                self.assertIsNone(error_of(mean_groups, persons, [], size))
            for size in (1, persons + 1):
                self.assertIs(error_of(mean_groups, persons, [], size), InvalidNumber)
            self.assertIsNone(error_of(count_with, persons, [[0, persons - 1]]))
            self.assertIs(error_of(count_with, persons, [[0, persons]]), InvalidGroups)
            self.assertIs(error_of(group_share, persons, [], [0, persons]), InvalidGroup)

    def test_units_only_of_told_groups_and_the_company(self):
        for told in ([], [[0, 1]], [[0, 1], [0, 1, 2]], HALVES, [[2, 3], [0, 1]]):
            for group in all_groups(4):
                expected = None if group in told or len(group) == 4 else InvalidGroup
                self.assertIs(error_of(units_of, 4, told, group), expected)
        for group in ([0, 2], [0, 1, 2], [0, 3]):
            self.assertIs(error_of(units_of, 4, CROSSING, group), InvalidGroup)
        for group in CROSSING + [[0, 1, 2, 3]]:
            self.assertIs(error_of(units_of, 4, CROSSING, group), Crossing)

    def test_nineteen_told_groups_but_not_twenty(self):
        for persons in (5, 20):
            groups = [list(two) for two in combinations(range(5), 2)] + [list(two) for two in combinations(range(5), 3)]
            for count in (count_with, share_with, crossing):
                self.assertIsNone(error_of(count, persons, groups[:19]))
                self.assertIs(error_of(count, persons, groups[:20]), InvalidGroups)
                self.assertIs(error_of(count, persons, groups[:19] + groups[:1]), InvalidGroups)
            self.assertIs(error_of(pair_shares, persons, groups[:19]), Crossing)
            self.assertIs(error_of(pair_shares, persons, groups[:20]), InvalidGroups)
        whole = parting_of(comb(TWENTY))
        self.assertIsNone(error_of(pair_shares, 20, whole))
        self.assertIs(error_of(pair_shares, 20, whole + [TWENTY]), InvalidGroups)
        self.assertIs(error_of(pair_shares, 20, whole + [[1, 2]]), InvalidGroups)


class SeveralWrong(unittest.TestCase):

    def check(self, functions, needs_family):
        for function, names in functions:
            choices = []
            for name in names:
                few = WRONG[name][0][:2] + WRONG[name][0][-1:]
                choices.append([RIGHT[name]] + ([CROSSING] if name == "told" else []) + few)
            for values in product(*choices):
                given = dict(zip(names, values))
                expected = expected_error(names, given, needs_family)
                with self.subTest((function.__name__, str(values)[:200])):
                    self.assertIs(error_of(function, **given), expected)
                    self.assertIs(error_of(function, *values), expected)

    def test_where_no_family_is_needed(self):
        self.check(NO_FAMILY_NEEDED, False)

    def test_where_a_family_is_needed(self):
        self.check(FAMILY_NEEDED, True)

    def test_lacking_comes_behind_crossing(self):
        self.assertIs(error_of(index_with, HALVES, [[0, 1, 2]]), Lacking)
        self.assertIs(error_of(index_with, HALVES, [[0, 1, 2], [1, 3]]), Crossing)
        self.assertIs(error_of(index_with, HALVES, [[0, 1, 2], [1, 3], [1]]), InvalidGroups)
        self.assertIs(error_of(index_with, HALVES[:2], [[0, 1, 2], [1, 3], [1]]), InvalidParting)

    def test_crossing_has_its_indices_wherever_it_is_raised(self):
        for function, names in FAMILY_NEEDED:
            given = [CROSSING if name == "told" else RIGHT[name] for name in names]
            with self.assertRaises(Crossing) as caught:
                function(*given)
            self.assertEqual((caught.exception.first, caught.exception.second), (0, 2))


if __name__ == "__main__":
    unittest.main()
