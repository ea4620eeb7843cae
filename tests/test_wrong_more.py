"""Points 2, 5 and 12 to 16: which error is raised, where one argument is wrong and where several are."""

import unittest
from itertools import product

from tests.helpers import TWENTY, comb, error_of, odd_for, odd_things, parting_of
from tests.test_wrong import CROSSING, FAR, HALVES, WRONG
from twopartings.distances import (
    agreeing, an_agreeing, at_distances, distance, exchanged, neighbours, shows_agreeing,
)
from twopartings.errors import (
    Crossing, InvalidComing, InvalidGroup, InvalidGroups, InvalidNode, InvalidNumber, InvalidParting, InvalidPartings,
    InvalidPerson, InvalidPersons, NoPerson,
)
from twopartings.families import all_histories, family_counts, histories, history_share, is_family
from twopartings.leaving import (
    coming_without, entered, is_traceless, traceless, traceless_counts, traceless_share, without,
)
from twopartings.marks import change_counts, changes_of
from twopartings.several import (
    common_groups, differing, groups_from, how_many, is_nearest, least_sum, most_groups,
)

CHAIN = [[0, 1], [0, 1, 2], [0, 1, 2, 3]]
WHOLE = parting_of(comb(TWENTY))
# Of four persons: for each kind of argument a right value, and wrong ones with their error.
RIGHT = {
    "persons": 4, "parting": HALVES, "second": CHAIN, "partings": [HALVES, CHAIN, HALVES], "coming": [0, -1, 2],
    "person": 3, "inside": 1, "node": -3, "group": [0, 1], "inner": [0, 1], "family": [[2, 3], [0, 1]], "number": 2,
    "thing": [0, 1], "some": [0, 2], "marked": 2,
}
KINDS = {
    **{name: WRONG[name] for name in ("persons", "parting", "person", "group")},
    "second": (WRONG["parting"][0] + [[], HALVES[:1], CHAIN[:2], WHOLE], InvalidParting),
    "partings": ([
        [], None, 0, "", (), {}, HALVES, [HALVES, []], [HALVES, CHAIN[:2]], [HALVES] * 21, [HALVES, HALVES[::-1]],
        (HALVES, CHAIN), [HALVES, None], [WHOLE, HALVES],
    ], InvalidPartings),
    "coming": ([
        None, 0, "", (), {}, (0, 0), [1], [-1], [0, 2], [0, -1, 3], [0, 0, True], [False], ["0"], [None], [[0]],
        [0] * 20,
    ], InvalidComing),
    "inside": ([2, 3, -1, 4, 20] + FAR, InvalidPerson),
    "node": ([-4, 4, 5, -5, 20] + FAR, InvalidNode),
    "inner": (WRONG["group"][0] + [[0, 1, 2, 3], [0, 2], [1, 2]], InvalidGroup),
    "family": (WRONG["told"][0], InvalidGroups),
    "number": ([0, 4, -1, 21] + FAR, InvalidNumber),
    "some": ([
        None, 0, "", (), {}, (0, 1), [4], [-1], [1, 0], [0, 0], [0, 1, 2, 3, 4], [True], [0, True], [[0]], ["0"],
        [None],
    ], InvalidGroup),
    "marked": ([-1, 5, -2, 21] + FAR, InvalidNumber),
}
FUNCTIONS = [
    (without, ["parting", "person"]), (coming_without, ["coming", "person"]), (entered, ["parting", "node"]),
    (is_traceless, ["parting", "person"]), (traceless, ["parting"]), (traceless_share, ["persons", "person"]),
    (traceless_counts, ["persons"]), (common_groups, ["partings"]), (most_groups, ["partings"]),
    (groups_from, ["partings", "number"]), (how_many, ["partings", "group"]), (differing, ["partings", "family"]),
    (least_sum, ["partings"]), (is_nearest, ["partings", "thing"]), (distance, ["parting", "second"]),
    (at_distances, ["parting"]), (exchanged, ["parting", "inner", "inside"]), (neighbours, ["parting"]),
    (agreeing, ["parting", "second"]), (an_agreeing, ["parting", "second"]),
    (shows_agreeing, ["parting", "second", "thing"]), (is_family, ["persons", "thing"]), (family_counts, ["persons"]),
    (all_histories, ["persons"]), (histories, ["parting"]), (history_share, ["persons", "group"]),
    (changes_of, ["parting", "some"]), (change_counts, ["persons", "marked"]),
]
NAMES = {"inside": "person", "inner": "group", "marked": "number"}


def named(kinds, values):
    """The arguments by the names that the interface has for them."""
    return {NAMES.get(kind, kind): value for kind, value in zip(kinds, values)}


def expected_error(kinds, values):
    """The error that point 2 has for these arguments."""
    for kind, value in zip(kinds, values):
        if kind in KINDS and any(value is thing for thing in KINDS[kind][0]):
            return KINDS[kind][1]
    return Crossing if any(value is CROSSING for value in values) else None


class OneWrong(unittest.TestCase):

    def test_nothing_wrong(self):
        for function, kinds in FUNCTIONS:
            self.assertIsNone(error_of(function, *[RIGHT[kind] for kind in kinds]))

    def test_each_argument_by_itself(self):
        for function, kinds in FUNCTIONS:
            for at, kind in enumerate(kinds):
                for thing in KINDS.get(kind, ([], None))[0]:
                    with self.subTest((function.__name__, kind, str(thing)[:80])):
                        values = [RIGHT[other] for other in kinds]
                        values[at] = thing
                        self.assertIs(error_of(function, *values), KINDS[kind][1])
                        self.assertIs(error_of(function, **named(kinds, values)), KINDS[kind][1])

    def test_any_object(self):
        objects = {"parting", "second", "coming", "group", "inner", "family", "partings", "some"}
        for function, kinds in FUNCTIONS:
            for at, kind in enumerate(kinds):
                for thing in odd_for(kind) if kind in objects else []:
                    values = [RIGHT[other] for other in kinds]
                    values[at] = thing
                    with self.subTest((function.__name__, kind, str(thing)[:80])):
                        self.assertIs(error_of(function, *values), KINDS[kind][1])

    def test_any_object_as_thing_raises_nothing(self):
        for function, kinds in FUNCTIONS:
            if kinds[-1] == "thing":
                for thing in odd_things():
                    given = [RIGHT[kind] for kind in kinds[:-1]]
                    self.assertIs(function(*given, thing), False)

    def test_a_boolean_is_no_integer(self):
        for thing in (True, False):
            for function in (traceless_counts, family_counts, all_histories):
                self.assertIs(error_of(function, thing), InvalidPersons)
            self.assertIs(error_of(is_family, thing, []), InvalidPersons)
            for function, given in ((without, HALVES), (coming_without, [0]), (is_traceless, HALVES)):
                self.assertIs(error_of(function, given, thing), InvalidPerson)
            self.assertIs(error_of(traceless_share, 4, thing), InvalidPerson)
            self.assertIs(error_of(exchanged, HALVES, [0, 1], thing), InvalidPerson)
            self.assertIs(error_of(entered, HALVES, thing), InvalidNode)
            self.assertIs(error_of(groups_from, [HALVES], thing), InvalidNumber)

    def test_limits_for_each_number_of_persons(self):
        for persons in range(1, 21):
            parting = parting_of(comb(TWENTY[:persons]))
            coming = [0] + [-at for at in range(1, persons - 1)] if persons > 1 else []
            for function, given in (
                (without, parting), (is_traceless, parting), (coming_without, coming), (traceless_share, persons),
            ):
                self.assertIs(error_of(function, given, persons), InvalidPerson)
                self.assertIs(error_of(function, given, -1), InvalidPerson)
                alone = persons == 1 and function in (without, coming_without)
                self.assertIs(error_of(function, given, persons - 1), NoPerson if alone else None)
            for number in (1, persons):
                self.assertIsNone(error_of(groups_from, [parting] * persons, number))
            for number in (0, persons + 1):
                self.assertIs(error_of(groups_from, [parting] * persons, number), InvalidNumber)
            self.assertIs(error_of(how_many, [parting], [0, persons]), InvalidGroup)
            self.assertIs(error_of(differing, [parting], [[0, persons]]), InvalidGroups)
            self.assertIs(error_of(history_share, persons, [0, persons]), InvalidGroup)
            self.assertIs(is_family(persons, [[0, persons]]), False)
        for function in (traceless_counts, family_counts, all_histories):
            for persons in (0, 21, -1):
                self.assertIs(error_of(function, persons), InvalidPersons)

    def test_an_item_does_not_depend_on_there_being_room(self):
        for node in (0, 19, 20, -20, 10 ** 30):
            self.assertIs(error_of(entered, WHOLE, node), InvalidParting)
        for node in (18, -18):
            self.assertIsNone(error_of(entered, parting_of(comb(TWENTY[:19])), node))
        for node in (19, -19):
            self.assertIs(error_of(entered, parting_of(comb(TWENTY[:19])), node), InvalidNode)


class SeveralWrong(unittest.TestCase):

    def test_the_first_one_decides(self):
        for function, kinds in FUNCTIONS:
            choices = []
            for kind in kinds:
                wrong = KINDS.get(kind, ([], None))[0]
                crossing = [CROSSING] if kind == "family" else []
                choices.append([RIGHT[kind]] + crossing + wrong[:2] + wrong[-2:])
            for values in product(*choices):
                expected = expected_error(kinds, values)
                with self.subTest((function.__name__, str(values)[:200])):
                    self.assertIs(error_of(function, *values), expected)
                    self.assertIs(error_of(function, **named(kinds, values)), expected)

    def test_nobody_left_comes_behind_the_person(self):
        for function in (without, coming_without):
            self.assertIs(error_of(function, [], 0), NoPerson)
            for person in (1, -1, 4) + tuple(FAR):
                self.assertIs(error_of(function, [], person), InvalidPerson)
        self.assertIs(error_of(without, [[0]], 0), InvalidParting)
        self.assertIs(error_of(coming_without, [1], 0), InvalidComing)

    def test_crossing_comes_behind_the_partings(self):
        self.assertIs(error_of(differing, [HALVES], CROSSING), Crossing)
        self.assertIs(error_of(differing, [], CROSSING), InvalidPartings)
        self.assertIs(error_of(differing, [HALVES, []], CROSSING), InvalidPartings)
        self.assertIs(error_of(differing, [HALVES[:2]], CROSSING), InvalidPartings)
        self.assertIs(error_of(differing, [HALVES], CROSSING + [[0, 4]]), InvalidGroups)
        self.assertIs(error_of(differing, [HALVES], CROSSING + CROSSING[:1]), InvalidGroups)


if __name__ == "__main__":
    unittest.main()
