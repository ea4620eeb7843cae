"""Point 2: names and arguments, lists that are new, arguments that stay as they were, equal results."""

import inspect
import unittest
from copy import deepcopy

from tests.helpers import TWENTY, comb, halved, list_ids, odd_things, parting_of, trees_of_twenty
from twopartings import comings, partings

INTERFACE = {
    partings: {
        "is_parting": ["thing"], "persons_of": ["parting"], "parts_of": ["parting", "group"],
        "maker_of": ["parting", "group"], "depth_of": ["parting", "person"],
        "least_group": ["parting", "one", "other"], "cut_to": ["parting", "some"],
    },
    comings: {"is_coming": ["thing"], "coming_of": ["parting"], "parting_by": ["coming"]},
}
HALVES = [[0, 1], [0, 1, 2, 3], [2, 3]]


def calls():
    """Calls of all functions, as (function, its arguments by name), with new arguments each time."""
    found = []
    trees = [(0, 1), ((0, 2), 1), ((0, 1), (2, 3)), comb(TWENTY), halved(TWENTY)]
    for parting in [parting_of(tree) for tree in trees]:
        persons = len(parting) + 1
        found += [(partings.is_parting, {"thing": parting}), (partings.persons_of, {"parting": parting})]
        for group in parting:
            found.append((partings.parts_of, {"parting": parting, "group": list(group)}))
            found.append((partings.maker_of, {"parting": parting, "group": group}))
        found.append((partings.depth_of, {"parting": parting, "person": persons - 1}))
        found.append((partings.least_group, {"parting": parting, "one": persons - 1, "other": 0}))
        for some in ([0], list(range(persons)), [0, persons - 1], list(range(1, persons))):
            found.append((partings.cut_to, {"parting": parting, "some": some}))
        found.append((comings.coming_of, {"parting": parting}))
        found.append((comings.parting_by, {"coming": comings.coming_of(parting)}))
        found.append((comings.is_coming, {"thing": comings.coming_of(parting)}))
    return deepcopy(found)


class Interface(unittest.TestCase):

    def test_names_and_arguments(self):
        for module, functions in INTERFACE.items():
            for name, arguments in functions.items():
                with self.subTest(name):
                    function = getattr(module, name)
                    self.assertEqual(function.__module__, module.__name__)
                    parameters = inspect.signature(function).parameters.values()
                    self.assertEqual([parameter.name for parameter in parameters], arguments)
                    for parameter in parameters:
                        self.assertIs(parameter.kind, inspect.Parameter.POSITIONAL_OR_KEYWORD)
                        self.assertIs(parameter.default, inspect.Parameter.empty)

    def test_by_position_and_by_name(self):
        for function, named in calls():
            expected = function(**named)
            self.assertEqual(function(*named.values()), expected)
            self.assertEqual(function(**dict(reversed(named.items()))), expected)

    def test_kinds_of_results(self):
        kinds = {
            "is_parting": bool, "is_coming": bool, "persons_of": int, "maker_of": int, "depth_of": int,
            "parts_of": list, "least_group": list, "cut_to": list, "coming_of": list, "parting_by": list,
        }
        for function, named in calls():
            self.assertIs(type(function(**named)), kinds[function.__name__])


class NewLists(unittest.TestCase):

    def test_arguments_stay_as_they_were(self):
        for function, named in calls():
            before = deepcopy(named)
            function(**named)
            self.assertEqual(named, before)

    def test_results_are_new_throughout(self):
        for function, named in calls():
            with self.subTest(function.__name__):
                result = function(**named)
                ids = list_ids(result)
                self.assertEqual(len(set(ids)), len(ids))
                passed = [number for thing in named.values() for number in list_ids(thing)]
                self.assertEqual(set(ids) & set(passed), set())

    def test_equal_calls_return_equal_and_unlike_objects(self):
        for function, named in calls():
            first = function(**named)
            second = function(**deepcopy(named))
            self.assertEqual(first, second)
            self.assertEqual(set(list_ids(first)) & set(list_ids(second)), set())

    def test_results_may_be_changed(self):
        for function, named in calls():
            result = function(**named)
            kept = deepcopy(result)
            if isinstance(result, list):
                for item in result:
                    if isinstance(item, list):
                        item.append(99)
                result.append(99)
            self.assertEqual(function(**named), kept)

    def test_results_may_be_passed_back(self):
        for tree in trees_of_twenty():
            parting = comings.parting_by(comings.coming_of(parting_of(tree)))
            for group in parting:
                for part in partings.parts_of(parting, group):
                    self.assertIs(partings.is_parting(partings.cut_to(parting, part)), True)
                maker = partings.maker_of(parting, group)
                self.assertEqual(partings.least_group(parting, maker, group[0]), group)

    def test_wrong_arguments_stay_as_they_were_too(self):
        for module, functions in INTERFACE.items():
            for name, arguments in functions.items():
                for thing in [given for given in odd_things() if isinstance(given, (list, dict))]:
                    before = str(thing)
                    given = [thing] + [0] * (len(arguments) - 1)
                    if name.startswith("is_"):
                        self.assertIs(getattr(module, name)(*given), False)
                    else:
                        self.assertRaises(ValueError, getattr(module, name), *given)
                    self.assertEqual(str(thing), before)


if __name__ == "__main__":
    unittest.main()
