"""Points 2 and 17: a company told bit by bit, against a tree that is told the same."""

import inspect
import unittest
from copy import deepcopy

from tests.helpers import (
    TWENTY, Dice, Told, comings_of_twenty, error_of, list_ids, odd_things, parting_of, trees_of_twenty,
)
from twopartings.comings import coming_of
from twopartings.errors import (
    InvalidGroup, InvalidIndex, InvalidNode, InvalidPerson, NothingToUndo, Refused,
)
from twopartings.live import Company

FAR = [10 ** 30, -(10 ** 30)]


def told_all(company):
    """All that a company tells."""
    return company.persons, company.parting, company.coming, len(company), company.mark()


def some_call(dice, told):
    """The name and the arguments of a call, often one that can be obeyed."""
    persons = told.persons()
    what = dice.below(100)
    if what < 45 or persons == 0 and what < 70:
        node = dice.below(2 * persons + 1) - persons
        return ("enter", [node] if what % 5 else [])
    if what < 60:
        return ("leave", [dice.below(persons + 1) - dice.below(5) // 4])
    if what < 85:
        groups = told.parting() + [[0, 1], [0], TWENTY]
        group = list(dice.one_of(groups))
        return ("exchange", [group, dice.one_of(group + [persons])])
    if what < 95:
        return ("undo", [])
    return ("undo_to", [len(told.past) - dice.below(6) + dice.below(2)])


def entered(coming):
    """A company that the persons of a coming list have entered."""
    company = Company()
    company.enter()
    for node in coming:
        company.enter(node)
    return company


def a_pair(company):
    """A group of two persons and one of these."""
    group = min(company.parting, key=len)
    return group, group[1]


class ManyCalls(unittest.TestCase):

    def check(self, company, told):
        self.assertEqual(company.persons, told.persons())
        self.assertEqual(company.parting, told.parting())
        self.assertEqual(company.coming, told.coming())
        self.assertEqual(len(company), len(told.past))
        self.assertEqual(company.mark(), len(told.past))

    def step(self, dice, company, told):
        name, given = some_call(dice, told)
        before = deepcopy(given), told_all(company)
        expected = error_of(getattr(told, name), *given)
        if expected is None:
            self.assertIsNone(getattr(company, name)(*given))
        else:
            self.assertIs(error_of(getattr(company, name), *given), expected)
            self.assertEqual(told_all(company), before[1])
        self.assertEqual(given, before[0])
        return expected

    def test_two_hundred_calls_behind_each_other(self):
        errors = {}
        for seed in range(12):
            dice, company, told = Dice(seed), Company(), Told()
            for at in range(200):
                error = self.step(dice, company, told)
                errors[error] = errors.get(error, 0) + 1
                if at % 3 == 0 or at > 190:
                    self.check(company, told)
        # Each kind of answer has been met many times.
        for error in (None, InvalidNode, InvalidPerson, InvalidGroup, InvalidIndex):
            self.assertGreater(errors[error], 10)
        self.assertIn(NothingToUndo, errors)

    def test_many_who_enter(self):
        for seed, coming in enumerate(comings_of_twenty()):
            dice, company, told = Dice(seed + 50), entered(coming), Told()
            told.enter()
            for node in coming:
                told.enter(node)
            self.check(company, told)
            for at in range(120):
                self.step(dice, company, told)
                if at % 4 == 0:
                    self.check(company, told)

    def test_twins_go_their_own_way(self):
        for seed in range(6):
            dice = Dice(seed + 100)
            pairs = [(Company(), Told())]
            for at in range(200):
                company, told = dice.one_of(pairs)
                self.step(dice, company, told)
                if at % 25 == 24:
                    company, told = dice.one_of(pairs)
                    pairs.append((company.twin(), told.twin()))
                if at % 10 == 0:
                    for company, told in pairs:
                        self.check(company, told)
            for company, told in pairs:
                self.check(company, told)
                while told.past:
                    told.undo()
                    company.undo()
                    self.check(company, told)
                self.assertIs(error_of(company.undo), NothingToUndo)


class Calls(unittest.TestCase):

    def test_nobody(self):
        company = Company()
        self.assertEqual(told_all(company), (0, [], [], 0, 0))
        for node in [1, -1, 19, 20] + FAR:
            self.assertIs(error_of(company.enter, node), InvalidNode)
        for person in [0, 1, -1] + FAR:
            self.assertIs(error_of(company.leave, person), InvalidPerson)
        for group in [[], [0], [0, 1], None, (0, 1)] + odd_things():
            self.assertIs(error_of(company.exchange, group, 0), InvalidGroup)
        self.assertIs(error_of(company.undo), NothingToUndo)
        for index in [1, -1] + FAR:
            self.assertIs(error_of(company.undo_to, index), InvalidIndex)
        self.assertIsNone(company.undo_to(0))
        self.assertEqual(told_all(company), (0, [], [], 0, 0))

    def test_one_person(self):
        company = Company()
        self.assertIsNone(company.enter())
        self.assertEqual(told_all(company), (1, [], [], 1, 1))
        for node in [1, -1, 2] + FAR:
            self.assertIs(error_of(company.enter, node), InvalidNode)
        self.assertIs(error_of(company.leave, 1), InvalidPerson)
        self.assertIs(error_of(company.exchange, [0], 0), InvalidGroup)
        self.assertIsNone(company.leave(0))
        self.assertEqual(told_all(company), (0, [], [], 2, 2))
        company.undo()
        self.assertEqual(told_all(company), (1, [], [], 1, 1))
        company.undo()
        self.assertEqual(told_all(company), (0, [], [], 0, 0))

    def test_all_items(self):
        for persons in range(1, 20):
            coming = comings_of_twenty()[persons % 12][:persons - 1]
            company = entered(coming)
            for node in [persons, -persons, persons + 1, 20] + FAR:
                self.assertIs(error_of(company.enter, node), InvalidNode)
            for node in range(1 - persons, persons):
                company.enter(node)
                self.assertEqual(company.coming, coming + [node])
                company.undo()
                self.assertEqual(company.coming, coming)

    def test_full(self):
        company = entered(comings_of_twenty()[5])
        before = told_all(company)
        for node in [0, 1, -19, 19, 20, -20] + FAR:
            with self.assertRaises(Refused) as caught:
                company.enter(node)
            self.assertEqual(caught.exception.word, "full")
            self.assertEqual(told_all(company), before)
        self.assertIs(error_of(company.enter), Refused)
        company.leave(3)
        self.assertIsNone(company.enter(18))
        self.assertIs(error_of(company.enter, 0), Refused)

    def test_exchange(self):
        company = entered([0, -1])
        self.assertIsNone(company.exchange([0, 1], 1))
        self.assertEqual(company.parting, [[0, 1, 2], [1, 2]])
        for group in ([0, 1, 2], [0, 1], [1], [2, 1], (1, 2), None, [1, True]):
            self.assertIs(error_of(company.exchange, group, 1), InvalidGroup)
        for person in [0, 3, -1] + FAR:
            self.assertIs(error_of(company.exchange, [1, 2], person), InvalidPerson)
        self.assertIs(error_of(company.exchange, [0, 2], 9), InvalidGroup)
        self.assertEqual((company.parting, company.mark()), ([[0, 1, 2], [1, 2]], 4))
        company.undo()
        self.assertEqual(company.parting, [[0, 1], [0, 1, 2]])

    def test_any_object_as_group(self):
        for tree in trees_of_twenty()[:3]:
            company = entered(coming_of(parting_of(tree)))
            for thing in odd_things() + [TWENTY, [0, 20]]:
                self.assertIs(error_of(company.exchange, thing, 0), InvalidGroup)
            self.assertEqual(company.parting, parting_of(tree))

    def test_undo_to(self):
        company = Company()
        kept = [told_all(company)]
        for node in [0, 0, -1, 2, -3, 1]:
            company.enter(node)
            kept.append(told_all(company))
        company.leave(2)
        kept.append(told_all(company))
        company.exchange(*a_pair(company))
        kept.append(told_all(company))
        for index in [9, -1, 20] + FAR:
            self.assertIs(error_of(company.undo_to, index), InvalidIndex)
        for index in (8, 8, 7, 6, 6, 3, 0, 0):
            self.assertIsNone(company.undo_to(index))
            self.assertEqual(told_all(company), kept[index])
            self.assertIs(error_of(company.undo_to, index + 1), InvalidIndex)

    def test_numbers_are_given_anew(self):
        company = entered([0, 1, 2])
        company.leave(1)
        self.assertEqual(company.persons, 3)
        company.enter(-2)
        self.assertEqual(company.persons, 4)
        company.undo_to(company.mark() - 2)
        self.assertEqual(company.coming, [0, 1, 2])

    def test_twin(self):
        company = entered([0, -1, 2])
        twin = company.twin()
        self.assertIsInstance(twin, Company)
        self.assertEqual(told_all(twin), told_all(company))
        company.leave(0)
        self.assertEqual((twin.persons, company.persons, len(twin), len(company)), (4, 3, 4, 5))
        twin.undo()
        twin.enter(0)
        twin.enter(1)
        self.assertEqual((twin.coming, len(twin), len(company)), ([0, -1, 0, 1], 5, 5))
        company.undo_to(0)
        self.assertEqual((company.persons, twin.persons), (0, 5))
        twin.undo_to(0)
        self.assertEqual(told_all(twin), told_all(company))
        self.assertEqual(told_all(Company().twin()), (0, [], [], 0, 0))


class General(unittest.TestCase):

    def test_names_and_arguments(self):
        expected = {
            "enter": ["self", "node"], "leave": ["self", "person"], "exchange": ["self", "group", "person"],
            "undo": ["self"], "mark": ["self"], "undo_to": ["self", "index"], "twin": ["self"], "__len__": ["self"],
        }
        for name, arguments in expected.items():
            self.assertEqual(list(inspect.signature(vars(Company)[name]).parameters), arguments)
        self.assertEqual(inspect.signature(Company.enter).parameters["node"].default, 0)
        for name in ("persons", "parting", "coming"):
            self.assertIsInstance(vars(Company)[name], property)
        self.assertEqual(Company.__module__, "twopartings.live")
        self.assertEqual(list(inspect.signature(Company).parameters), [])

    def test_by_name(self):
        company = Company()
        company.enter(node=0)
        company.enter(node=0)
        company.enter(node=-1)
        company.exchange(group=[0, 1], person=1)
        company.leave(person=0)
        self.assertEqual(company.parting, [[0, 1]])
        company.undo_to(index=1)
        self.assertEqual((company.persons, company.mark()), (1, 1))

    def test_kinds_of_values(self):
        company = entered([0, -1])
        self.assertIs(type(company.persons), int)
        self.assertIs(type(company.parting), list)
        self.assertIs(type(company.coming), list)
        self.assertIs(type(company.mark()), int)

    def test_lists_are_new(self):
        for tree in [0, (0, 1)] + trees_of_twenty()[:4]:
            company = entered(coming_of(parting_of(tree)))
            twin = company.twin()
            first, second = company.parting, company.parting
            self.assertEqual(first, second)
            ids = list_ids(first) + list_ids(second) + list_ids(twin.parting)
            self.assertEqual(set(list_ids(first)) & set(list_ids(second)), set())
            self.assertEqual(set(list_ids(first)) & set(list_ids(twin.parting)), set())
            self.assertEqual(len(set(ids[:len(list_ids(first))])), len(list_ids(first)))
            self.assertIsNot(company.coming, company.coming)
            for group in first:
                group.clear()
            first.append([0])
            company.coming.append(5)
            self.assertEqual(company.parting, second)
            self.assertEqual(company.coming, coming_of(second))
            self.assertEqual(twin.parting, second)

    def test_what_is_passed_stays_and_may_change_later(self):
        for tree in trees_of_twenty()[:5]:
            company = entered(coming_of(parting_of(tree)))
            for group in [group for group in company.parting if len(group) < 20][:4]:
                given = list(group)
                company.exchange(given, given[0])
                self.assertEqual(given, group)
                after = company.parting
                given.clear()
                self.assertEqual(company.parting, after)
                company.undo()
                self.assertEqual(company.parting, parting_of(tree))

    def test_lists_that_were_told_stay_as_they_are(self):
        company = entered([0, -1, 2])
        parting, coming = company.parting, company.coming
        company.leave(1)
        company.enter(0)
        company.exchange(*a_pair(company))
        company.undo_to(0)
        self.assertEqual((parting, coming), ([[0, 1], [0, 1, 2, 3], [2, 3]], [0, -1, 2]))

    def test_compared_by_identity(self):
        one, other = entered([0, -1]), entered([0, -1])
        self.assertEqual(one, one)
        self.assertNotEqual(one, other)
        self.assertNotEqual(one, one.twin())
        self.assertEqual(len({one, other, one.twin()}), 3)

    def test_companies_do_not_know_of_each_other(self):
        one, other = Company(), Company()
        one.enter()
        self.assertEqual((one.persons, other.persons, len(other)), (1, 0, 0))


if __name__ == "__main__":
    unittest.main()
