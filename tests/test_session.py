"""Points 2 and 19: a session, against a tree that is told the same lines."""

import unittest

from tests.helpers import (
    Dice, Told, comings_of_twenty, free_persons, tree_depth, tree_histories, tree_least, tree_text,
)
from twopartings.errors import InvalidPerson, InvalidPersons, PartError
from twopartings.session import session


class Desk:
    """Answers to lines whose words are right, by a tree."""

    def __init__(self):
        self.told = Told()

    def somebody(self):
        if self.told.tree is None:
            raise InvalidPersons("nobody")
        return self.told.tree

    def person(self, person):
        if person >= self.told.persons():
            raise InvalidPerson("person")
        return person

    def answer(self, word, numbers):
        told = self.told
        calls = {"enter": told.enter, "leave": told.leave, "undo": told.undo, "back": told.undo_to}
        if word in calls:
            calls[word](*numbers)
            return "ok"
        if word == "new":
            self.told = Told()
            return "ok"
        if word == "parting":
            return "-" if told.tree is None else tree_text(told.tree)
        if word == "coming":
            return listed(told.coming())
        tree = self.somebody()
        if word == "index":
            index = 0
            for at, item in enumerate(told.coming()):
                index = index * (2 * at + 1) + at + item
            return str(index)
        if word == "count":
            count = 1
            for at in range(told.persons() - 1):
                count *= 2 * at + 1
            return str(count)
        if word == "traceless":
            return listed(free_persons(told.coming()))
        if word == "histories":
            return str(tree_histories(tree))
        if word == "depth":
            return str(tree_depth(tree, self.person(numbers[0])))
        one, other = self.person(numbers[0]), self.person(numbers[1])
        if one == other:
            raise InvalidPerson("other")
        return listed(tree_least(tree, one, other))

    def line(self, word, *numbers):
        try:
            return self.answer(word, numbers)
        except PartError as error:
            return type(error).__name__


def listed(numbers):
    return " ".join(map(str, numbers)) or "-"


def some_line(dice, told):
    """The words of a line, often one that changes something or tells something."""
    persons = told.persons()
    what = dice.below(100)
    if what < 40:
        return ("enter", dice.below(2 * persons + 1) - persons)
    if what < 46:
        return ("leave", dice.below(persons + 1))
    if what < 50:
        return ("undo",)
    if what < 53:
        return ("back", max(len(told.past) - dice.below(4) + dice.below(2), 0))
    if what < 54:
        return ("new",)
    if what < 62:
        return ("depth", dice.below(persons + 1))
    if what < 70:
        return ("least", dice.below(persons + 1), dice.below(persons + 1))
    return (dice.one_of(["parting", "coming", "index", "count", "traceless", "histories"]),)


def answers(*lines):
    return session("\n".join(lines)).split("\n")


class Sessions(unittest.TestCase):

    def test_a_hundred_lines(self):
        met = set()
        for seed in range(150):
            dice, desk = Dice(seed), Desk()
            lines, expected = [], []
            for _ in range(100):
                words = some_line(dice, desk.told)
                lines.append(" ".join(map(str, words)))
                expected.append(desk.line(*words))
            self.assertEqual(answers(*lines), expected)
            met |= set(expected)
        errors = {"InvalidNode", "InvalidPerson", "InvalidPersons", "InvalidIndex", "NothingToUndo", "ok", "-"}
        self.assertLessEqual(errors, met)

    def test_twenty_persons(self):
        for coming in comings_of_twenty():
            desk = Desk()
            words = [("enter", 0)] + [("enter", item) for item in coming]
            words += [("enter", 0), ("enter", 99), ("enter", -20), ("parting",), ("coming",), ("index",), ("count",)]
            words += [("traceless",), ("histories",)] + [("depth", person) for person in range(0, 21, 4)]
            words += [("least", person, 19 - person) for person in range(0, 20, 3)] + [("least", 5, 20), ("leave", 7)]
            words += [("parting",), ("coming",), ("enter", 18), ("index",), ("back", 20), ("coming",), ("back", 0)]
            words += [("parting",), ("count",)]
            expected = [desk.line(*given) for given in words]
            self.assertEqual(answers(*[" ".join(map(str, given)) for given in words]), expected)
            self.assertEqual(expected[20:23], ["Refused"] * 3)

    def test_by_hand(self):
        lines = [
            "enter 0", "enter 0", "enter -1", "enter 2", "parting", "coming", "index", "count", "traceless",
            "histories", "depth 3", "least 3 2", "least 0 2", "leave 0", "parting", "undo", "back 1", "parting",
            "coming", "traceless",
        ]
        expected = [
            "ok", "ok", "ok", "ok", "((0 1) (2 3))", "0 -1 2", "4", "15", "3", "2", "2", "2 3", "0 1 2 3", "ok",
            "(0 (1 2))", "ok", "ok", "0", "-", "0",
        ]
        self.assertEqual(answers(*lines), expected)

    def test_the_example_of_a_trace(self):
        lines = ["enter 0", "enter 0", "enter 0", "enter -1", "traceless", "leave 1", "coming", "traceless"]
        self.assertEqual(answers(*lines), ["ok"] * 4 + ["2 3", "ok", "0 -1", "2"])

    def test_nobody(self):
        words = ["index", "count", "traceless", "histories", "depth 0", "depth 7", "least 0 1", "least 0 0"]
        for before in ([], ["enter 0", "leave 0"], ["enter 0", "undo"], ["enter 0", "enter 0", "new"]):
            self.assertEqual(answers(*before, *words)[len(before):], ["InvalidPersons"] * 8)
            self.assertEqual(answers(*before, "parting", "coming")[len(before):], ["-", "-"])
            self.assertEqual(answers(*before, "leave 0", "enter 1")[len(before):], ["InvalidPerson", "InvalidNode"])
        self.assertEqual(answers("undo", "back 0", "back 1"), ["NothingToUndo", "ok", "InvalidIndex"])

    def test_one_person(self):
        lines = ["enter 0", "parting", "coming", "index", "count", "traceless", "histories", "depth 0", "depth 1"]
        expected = ["ok", "0", "-", "0", "1", "0", "1", "0", "InvalidPerson"]
        self.assertEqual(answers(*lines, "least 0 0", "least 0 1"), expected + ["InvalidPerson"] * 2)

    def test_a_new_company_has_nothing_to_undo(self):
        lines = ["enter 0", "enter 0", "new", "undo", "back 1", "parting", "enter 0", "back 0", "parting"]
        expected = ["ok", "ok", "ok", "NothingToUndo", "InvalidIndex", "-", "ok", "ok", "-"]
        self.assertEqual(answers(*lines), expected)

    def test_the_empty_string_is_one_empty_line(self):
        self.assertEqual(session(""), "?")
        self.assertEqual(session("\n"), "?\n?")
        self.assertEqual(session("new"), "ok")
        self.assertEqual(session("new\n"), "ok\n?")
        self.assertEqual(session("\nnew\n\ncount"), "?\nok\n?\nInvalidPersons")
        self.assertEqual(session(lines="enter 0"), "ok")
        self.assertEqual(session("\n".join(["enter 0"] * 100)), "\n".join(["ok"] * 20 + ["Refused"] * 80))


class OtherLines(unittest.TestCase):
    """Lines that are answered by a question mark."""

    RIGHT = [
        "enter 0", "leave 0", "undo", "back 0", "new", "parting", "coming", "index", "count", "traceless", "histories",
        "depth 0", "least 0 1",
    ]

    def check(self, line):
        self.assertEqual(session(line), "?", line)
        made = ["enter 0", "enter 0", "enter 1"]
        after = ["parting", "coming", "back 3", "index"]
        self.assertEqual(answers(*made, line, *after), ["ok"] * 3 + ["?"] + ["(0 (1 2))", "0 1", "ok", "2"], line)

    def test_words_too_many_or_too_few(self):
        for line in self.RIGHT:
            words = line.split(" ")
            for more in (" 0", " x", " ", "  ", " 0 0"):
                self.check(line + more)
            for many in range(1, len(words)):
                self.check(" ".join(words[:many]))
            self.check(" " + line)
            self.check(line.replace(" ", "  ") if " " in line else line + "  ")

    def test_other_words(self):
        for line in (
            "Enter 0", "ENTER 0", "enter0", "exit", "mark", "twin", "exchange 0", "exchange 0 1 0", "undo_to 0", "?",
            "ok", "-", "0", "Parting", "parting ()", "partings", "write_parting", "undo 1", "new 4", "back", "len",
            "depth one", "least 0", "least 0 1 2", "least", "depth", "leave", "enter", "",
        ):
            self.check(line)

    def test_words_that_are_no_numbers(self):
        wrong = ["", "-", "--1", "+1", "01", "00", "-0", "-01", "1.0", "1_0", "0x1", "1e3", "one", "1,", "(1)"]
        wrong += ["9" * 32, "-" + "9" * 32, "1" + "0" * 31, "0" * 31, "1-", "- 1", "-+1", "None", "True", "0b1"]
        for word in wrong:
            self.check(f"enter {word}")
        for word in wrong + ["-1", "-9", "-" + "9" * 31]:
            for line in (f"leave {word}", f"back {word}", f"depth {word}", f"least {word} 1", f"least 1 {word}"):
                self.check(line)

    def test_numbers_of_many_digits(self):
        far = "9" * 31
        lines = [f"enter {far}", f"enter -{far}", f"leave {far}", f"back {far}", f"depth {far}", f"least {far} 0"]
        expected = ["InvalidNode", "InvalidNode", "InvalidPerson", "InvalidIndex", "InvalidPersons", "InvalidPersons"]
        self.assertEqual(answers(*lines), expected)
        lines += [f"least 0 {far}", "least 0 1" + "0" * 30]
        expected[4:] = ["InvalidPerson"] * 4
        self.assertEqual(answers("enter 0", *lines)[1:], expected)
        for line in (f"enter {far}9", f"enter -{far}9", f"leave {far}9", f"back {far}9", f"depth {far}9"):
            self.check(line)
        self.check("enter " + "1" * 7000)

    def test_no_number_comes_ahead_of_nobody(self):
        for line in ("depth x", "least 0 x", "least 0", "depth -1", "index 0", "leave -1", "count 4"):
            self.assertEqual(session(line), "?")

    def test_errors_change_nothing(self):
        made = ["enter 0", "enter 0", "enter -1", "enter 1"]
        told = ["parting", "coming", "index", "back 4"]
        expected = answers(*made, *told)[4:]
        self.assertEqual(expected[-1], "ok")
        refused = ["enter 4", "enter -4", "leave 4", "leave 99", "back 5", "depth 4", "least 1 1", "least 4 0"]
        for line in refused + ["enter", "new 1", "undo 0", ""]:
            found = answers(*made, line, *told)
            self.assertIn(found[4], ("InvalidNode", "InvalidPerson", "InvalidIndex", "?"))
            self.assertEqual(found[5:], expected)


if __name__ == "__main__":
    unittest.main()
