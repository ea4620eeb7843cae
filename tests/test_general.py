"""Point 2: names and arguments, lists that are new, arguments that stay as they were, equal results."""

import inspect
import unittest
from copy import deepcopy

from tests.helpers import (
    TWENTY, comb, halved, list_ids, odd_for, parting_of, told_of_twenty, trees_of_twenty,
)
from twopartings import (
    comings, distances, families, leaving, marks, numbers, pairings, partings, session, several, shares, texts, told,
)

INTERFACE = {
    partings: {
        "is_parting": ["thing"], "persons_of": ["parting"], "parts_of": ["parting", "group"],
        "maker_of": ["parting", "group"], "depth_of": ["parting", "person"],
        "least_group": ["parting", "one", "other"], "cut_to": ["parting", "some"],
    },
    comings: {"is_coming": ["thing"], "coming_of": ["parting"], "parting_by": ["coming"]},
    pairings: {"is_pairing": ["thing"], "pairs_of": ["parting"], "parting_by_pairs": ["pairs"]},
    told: {
        "count_partings": ["persons"], "crossing": ["persons", "told"], "count_with": ["persons", "told"],
        "share_with": ["persons", "told"], "units_of": ["persons", "told", "group"],
        "group_share": ["persons", "told", "group"],
    },
    numbers: {
        "nth_parting": ["persons", "index"], "parting_index": ["parting"], "next_parting": ["parting"],
        "nth_with": ["persons", "told", "index"], "index_with": ["parting", "told"],
        "nth_by_pairs": ["persons", "index"], "index_by_pairs": ["parting"],
    },
    shares: {
        "triple_share": ["persons", "told", "one", "other", "third"], "depth_shares": ["persons", "told", "person"],
        "mean_depth": ["persons", "told", "person"], "meet_shares": ["persons", "told", "one", "other"],
        "pair_shares": ["persons", "told"], "mean_groups": ["persons", "told", "size"],
        "first_shares": ["persons", "told"],
    },
    leaving: {
        "without": ["parting", "person"], "coming_without": ["coming", "person"], "entered": ["parting", "node"],
        "is_traceless": ["parting", "person"], "traceless": ["parting"], "traceless_share": ["persons", "person"],
        "traceless_counts": ["persons"],
    },
    several: {
        "common_groups": ["partings"], "most_groups": ["partings"], "groups_from": ["partings", "number"],
        "how_many": ["partings", "group"], "differing": ["partings", "family"], "least_sum": ["partings"],
        "is_nearest": ["partings", "thing"],
    },
    distances: {
        "distance": ["parting", "second"], "at_distances": ["parting"], "exchanged": ["parting", "group", "person"],
        "neighbours": ["parting"], "agreeing": ["parting", "second"], "an_agreeing": ["parting", "second"],
        "shows_agreeing": ["parting", "second", "thing"],
    },
    families: {
        "is_family": ["persons", "thing"], "family_counts": ["persons"], "all_histories": ["persons"],
        "histories": ["parting"], "history_share": ["persons", "group"],
    },
    marks: {"changes_of": ["parting", "some"], "change_counts": ["persons", "number"]},
    texts: {
        "write_parting": ["parting"], "read_parting": ["text"], "write_coming": ["coming"], "read_coming": ["text"],
    },
    session: {"session": ["lines"]},
}
KINDS = {
    "is_parting": bool, "persons_of": int, "maker_of": int, "depth_of": int, "parts_of": list, "least_group": list,
    "cut_to": list, "is_coming": bool, "coming_of": list, "parting_by": list, "is_pairing": bool, "pairs_of": list,
    "parting_by_pairs": list, "count_partings": int, "crossing": tuple, "count_with": int, "share_with": tuple,
    "units_of": list, "group_share": tuple, "nth_parting": list, "parting_index": int, "next_parting": list,
    "nth_with": list, "index_with": int, "nth_by_pairs": list, "index_by_pairs": int, "triple_share": tuple,
    "depth_shares": list, "mean_depth": tuple, "meet_shares": list, "pair_shares": list, "mean_groups": tuple,
    "first_shares": list, "without": list, "coming_without": list, "entered": list, "is_traceless": bool,
    "traceless": list, "traceless_share": tuple, "traceless_counts": list, "common_groups": list, "most_groups": list,
    "groups_from": list, "how_many": int, "differing": int, "least_sum": int, "is_nearest": bool, "distance": int,
    "at_distances": list, "exchanged": list, "neighbours": list, "agreeing": int, "an_agreeing": list,
    "shows_agreeing": bool, "is_family": bool, "family_counts": list, "all_histories": int, "histories": int,
    "history_share": tuple, "changes_of": int, "change_counts": list, "write_parting": str, "read_parting": list,
    "write_coming": str, "read_coming": list, "session": str,
}
# Of anything but valid values nothing is promised for these.
WRITERS = ("write_parting", "write_coming")
OBJECTS = {"thing", "parting", "coming", "pairs", "told", "group", "some", "second", "partings", "family"}


def calls_of_told(persons, groups):
    """Calls of what takes told groups, of which no two cross."""
    both = {"persons": persons, "told": groups}
    found = [(told.crossing, {"persons": persons, "told": [[0, 1], [1, persons - 1]]})] if persons > 2 else []
    for function in (told.count_with, told.share_with, shares.pair_shares, shares.first_shares):
        found.append((function, both))
    for group in groups + [list(range(persons))]:
        found += [(told.units_of, {**both, "group": group}), (told.units_of, {**both, "group": list(group)})]
        found.append((told.group_share, {**both, "group": group}))
    found.append((told.group_share, {**both, "group": [0, persons - 1]}))
    found.append((numbers.nth_with, {**both, "index": 0}))
    found.append((numbers.index_with, {"parting": numbers.nth_with(persons, groups, 0), "told": groups}))
    for function in (shares.depth_shares, shares.mean_depth):
        found.append((function, {**both, "person": persons - 1}))
    found.append((shares.meet_shares, {**both, "one": persons - 1, "other": 0}))
    found.append((shares.mean_groups, {**both, "size": 2}))
    if persons > 2:
        found.append((shares.triple_share, {**both, "one": persons - 1, "other": 0, "third": 1}))
    return found


def calls_of_persons(persons, person):
    """Calls of what is told of so many persons, whatever their parting."""
    found = [(families.history_share, {"persons": persons, "group": group}) for group in ([0, 1], [0, persons - 1])]
    for call in (leaving.traceless_counts, families.family_counts, families.all_histories):
        found.append((call, {"persons": persons}))
    for number in (0, persons // 2, persons):
        found.append((marks.change_counts, {"persons": persons, "number": number}))
    return found + [(leaving.traceless_share, {"persons": persons, "person": person})]


def calls_of_leaving(parting, persons):
    """Calls of who leaves one parting and who enters it."""
    coming = comings.coming_of(parting)
    found = [(leaving.traceless, {"parting": parting}), (families.histories, {"parting": parting})]
    for person in (0, persons - 1):
        found.append((leaving.without, {"parting": parting, "person": person}))
        found.append((leaving.coming_without, {"coming": coming, "person": person}))
        found.append((leaving.is_traceless, {"parting": parting, "person": person}))
    if persons < 20:
        found += [(leaving.entered, {"parting": parting, "node": node}) for node in (1 - persons, 0, persons - 1)]
    for some in ([], [0], list(range(0, persons, 2)), list(range(persons))):
        found.append((marks.changes_of, {"parting": parting, "some": some}))
    for write, read, name, value in (
        (texts.write_parting, texts.read_parting, "parting", parting),
        (texts.write_coming, texts.read_coming, "coming", coming),
    ):
        found += [(write, {name: value}), (read, {"text": write(value)})]
    lines = "\n".join([f"enter {item}" for item in [0] + coming] + ["parting", "leave 0", "undo", "coming", "x"])
    return found + [(session.session, {"lines": lines})]


def calls_of_two(parting, second):
    """Calls of what is told of two partings, and of a list of partings with both."""
    both = {"parting": parting, "second": second}
    found = [(call, both) for call in (distances.distance, distances.agreeing, distances.an_agreeing)]
    found += [(distances.shows_agreeing, {**both, "thing": thing}) for thing in ([0], [0, 1], parting[-1])]
    found += [(call, {"parting": parting}) for call in (distances.at_distances, distances.neighbours)]
    for group in parting:
        if len(group) <= len(parting):
            found.append((distances.exchanged, {"parting": parting, "group": group, "person": group[-1]}))
    for many in ([parting], [parting, second], [second] * 20, [parting, parting, second]):
        for call in (several.common_groups, several.most_groups, several.least_sum):
            found.append((call, {"partings": many}))
        found.append((several.groups_from, {"partings": many, "number": 1}))
        found.append((several.how_many, {"partings": many, "group": parting[0]}))
        found.append((several.differing, {"partings": many, "family": parting}))
        found += [(several.is_nearest, {"partings": many, "thing": thing}) for thing in (parting, second, [])]
    persons = len(parting) + 1
    return found + [(families.is_family, {"persons": persons, "thing": thing}) for thing in (parting, parting[1:])]


def calls():
    """Calls of all functions, as (function, its arguments by name), with new arguments each time."""
    found = []
    trees = [(0, 1), ((0, 2), 1), ((0, 1), (2, 3)), comb(TWENTY), halved(TWENTY)]
    for groups in told_of_twenty()[:14]:
        found += calls_of_told(20, groups)
    for parting in [parting_of(tree) for tree in trees]:
        found += calls_of_told(len(parting) + 1, parting) + calls_of_told(len(parting) + 1, parting[1:])
        persons = len(parting) + 1
        found += [(partings.is_parting, {"thing": parting}), (partings.persons_of, {"parting": parting})]
        for group in parting:
            found.append((partings.parts_of, {"parting": parting, "group": list(group)}))
            found.append((partings.maker_of, {"parting": parting, "group": group}))
        found.append((partings.depth_of, {"parting": parting, "person": persons - 1}))
        found.append((partings.least_group, {"parting": parting, "one": persons - 1, "other": 0}))
        for some in ([0], list(range(persons)), [0, persons - 1], list(range(1, persons))):
            found.append((partings.cut_to, {"parting": parting, "some": some}))
        found.append((comings.coming_of, {"parting": parting}))
        found.append((comings.parting_by, {"coming": comings.coming_of(parting)}))
        found.append((comings.is_coming, {"thing": comings.coming_of(parting)}))
        pairs = pairings.pairs_of(parting)
        found += [(pairings.pairs_of, {"parting": parting}), (pairings.parting_by_pairs, {"pairs": pairs})]
        found += [(pairings.is_pairing, {"thing": pairs}), (told.count_partings, {"persons": persons})]
        for index in (0, told.count_partings(persons) - 1):
            found.append((numbers.nth_parting, {"persons": persons, "index": index}))
            found.append((numbers.nth_by_pairs, {"persons": persons, "index": index}))
        found += [(numbers.parting_index, {"parting": parting}), (numbers.index_by_pairs, {"parting": parting})]
        if persons > 2:
            found.append((numbers.next_parting, {"parting": parting}))
        found += calls_of_persons(persons, persons // 2) + calls_of_leaving(parting, persons)
        found += calls_of_two(parting, numbers.nth_parting(persons, 0))
        found += calls_of_two(parting, numbers.nth_by_pairs(persons, told.count_partings(persons) // 3))
    return deepcopy(found)


class Interface(unittest.TestCase):

    def test_names_and_arguments(self):
        for module, functions in INTERFACE.items():
            for name, arguments in functions.items():
                with self.subTest(name):
                    function = getattr(module, name)
                    self.assertEqual(function.__module__, module.__name__)
                    parameters = inspect.signature(function).parameters.values()
                    self.assertEqual([parameter.name for parameter in parameters], arguments)
                    for parameter in parameters:
                        self.assertIs(parameter.kind, inspect.Parameter.POSITIONAL_OR_KEYWORD)
                        self.assertIs(parameter.default, inspect.Parameter.empty)

    def test_by_position_and_by_name(self):
        for function, named in calls():
            expected = function(**named)
            self.assertEqual(function(*named.values()), expected)
            self.assertEqual(function(**dict(reversed(named.items()))), expected)

    def test_kinds_of_results(self):
        for function, named in calls():
            self.assertIs(type(function(**named)), KINDS[function.__name__])

    def test_all_functions_are_called_here(self):
        names = [name for functions in INTERFACE.values() for name in functions]
        self.assertEqual(sorted(names), sorted(KINDS))
        self.assertEqual({function.__name__ for function, _ in calls()}, set(names))


class NewLists(unittest.TestCase):

    def test_arguments_stay_as_they_were(self):
        for function, named in calls():
            before = deepcopy(named)
            function(**named)
            self.assertEqual(named, before)

    def test_results_are_new_throughout(self):
        for function, named in calls():
            with self.subTest(function.__name__):
                result = function(**named)
                ids = list_ids(result)
                self.assertEqual(len(set(ids)), len(ids))
                passed = [number for thing in named.values() for number in list_ids(thing)]
                self.assertEqual(set(ids) & set(passed), set())

    def test_equal_calls_return_equal_and_unlike_objects(self):
        for function, named in calls():
            first = function(**named)
            second = function(**deepcopy(named))
            self.assertEqual(first, second)
            self.assertEqual(set(list_ids(first)) & set(list_ids(second)), set())

    def test_results_may_be_changed(self):
        for function, named in calls():
            result = function(**named)
            kept = deepcopy(result)
            if isinstance(result, list):
                for item in result:
                    if isinstance(item, list):
                        item.append(99)
                result.append(99)
            self.assertEqual(function(**named), kept)

    def test_results_may_be_passed_back(self):
        for tree in trees_of_twenty():
            parting = comings.parting_by(comings.coming_of(parting_of(tree)))
            for group in parting:
                for part in partings.parts_of(parting, group):
                    self.assertIs(partings.is_parting(partings.cut_to(parting, part)), True)
                maker = partings.maker_of(parting, group)
                self.assertEqual(partings.least_group(parting, maker, group[0]), group)
            self.assertEqual(pairings.parting_by_pairs(pairings.pairs_of(parting)), parting)
            units = told.units_of(20, parting, parting[0])
            self.assertEqual(told.group_share(20, [unit for unit in units if len(unit) > 1], parting[0])[0] > 0, True)
            self.assertEqual(numbers.nth_parting(20, numbers.parting_index(parting)), parting)
            self.assertEqual(numbers.index_with(numbers.nth_with(20, parting[1:5], 0), parting[1:5]), 0)

    def test_wrong_arguments_stay_as_they_were_too(self):
        for function, named in [given for given in calls()[::3] if given[0].__name__ not in WRITERS]:
            for name in OBJECTS & set(named):
                odd = [thing for thing in odd_for(name) if isinstance(thing, (list, dict))]
                for thing in [thing for thing in odd if not pairings.is_pairing(thing)]:
                    before = deepcopy([*named.values()]), str(thing)
                    given = {**named, name: thing}
                    if name == "thing":
                        self.assertIs(function(**given), False)
                    else:
                        self.assertRaises(ValueError, function, **given)
                    self.assertEqual(([*named.values()], str(thing)), before)


if __name__ == "__main__":
    unittest.main()
