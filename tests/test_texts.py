"""Points 2 and 18: texts of partings and coming lists, and strings that are none."""

import re
import unittest
from itertools import product

from tests.helpers import (
    TWENTY, Dice, all_trees, comb, comings_of_twenty, halved, members, mixed, parting_of, tree_text, trees_of_twenty,
)
from twopartings.comings import coming_of, parting_by
from twopartings.errors import InvalidText
from twopartings.texts import read_coming, read_parting, write_coming, write_parting


def place_of(reader, text):
    """The place that a reader tells in its error, None if it reads the text."""
    try:
        reader(text)
    except InvalidText as error:
        return error.place
    return None


def first_bad_word(text):
    """The number of the first word that cannot stand there, None if there is none."""
    if text == "-":
        return None
    words = text.split(" ")
    if words[0] == "-":
        return 1
    for place, word in enumerate(words):
        if place == 19 or not re.fullmatch(r"0|-?[1-9][0-9]?", word) or abs(int(word)) > place:
            return place
    return None


def swapped(tree):
    """All trees that are the same but for the sequence of parts in one place."""
    if isinstance(tree, int):
        return []
    one, other = tree
    return [(other, one)] + [(less, other) for less in swapped(one)] + [(one, less) for less in swapped(other)]


def text_as_it_stands(tree):
    if isinstance(tree, int):
        return str(tree)
    return f"({text_as_it_stands(tree[0])} {text_as_it_stands(tree[1])})"


def in_sequence(tree):
    """The tree with the part with the least person first, everywhere."""
    if isinstance(tree, int):
        return tree
    return tuple(sorted([in_sequence(tree[0]), in_sequence(tree[1])], key=lambda part: members(part)[0]))


def bent(text, signs):
    """The text with one sign left out, put in, or in the place of another one."""
    found = []
    for at in range(len(text) + 1):
        found += [text[:at] + sign + text[at:] for sign in signs]
        if at < len(text):
            found += [text[:at] + sign + text[at + 1:] for sign in signs] + [text[:at] + text[at + 1:]]
    return found


SMALL = [tree for persons in range(1, 6) for tree in all_trees(list(range(persons)))]


class PartingTexts(unittest.TestCase):

    def check(self, tree):
        parting, text = parting_of(tree), tree_text(tree)
        self.assertEqual(write_parting(parting), text)
        self.assertEqual(read_parting(text), parting)

    def test_small_partings(self):
        for tree in SMALL + all_trees(TWENTY[:6])[::7]:
            self.check(tree)

    def test_twenty_persons(self):
        for tree in trees_of_twenty():
            self.check(tree)
        for persons in range(1, 21):
            self.check(halved(TWENTY[:persons]))
            self.check(comb(mixed(TWENTY[:persons], persons)))

    def test_by_hand(self):
        self.assertEqual(write_parting([[0, 1, 2], [0, 2]]), "((0 2) 1)")
        self.assertEqual(write_parting([]), "0")
        self.assertEqual(write_parting([[0, 1]]), "(0 1)")
        self.assertEqual(read_parting("((0 1) (2 3))"), [[0, 1], [0, 1, 2, 3], [2, 3]])
        self.assertEqual(read_parting("0"), [])

    def test_all_short_strings(self):
        right = {tree_text(tree): parting_of(tree) for tree in SMALL}
        for many in range(6):
            for signs in product("01 ()2", repeat=many):
                text = "".join(signs)
                if text in right:
                    self.assertEqual(read_parting(text), right[text])
                else:
                    self.assertEqual(place_of(read_parting, text), 0, text)

    def test_one_sign_bent(self):
        right = {tree_text(tree): parting_of(tree) for tree in SMALL}
        for tree in [0, (0, 1)] + SMALL[2:18] + SMALL[30::40]:
            for text in bent(tree_text(tree), "01234 ()-+,\n"):
                if text in right:
                    self.assertEqual(read_parting(text), right[text])
                else:
                    self.assertEqual(place_of(read_parting, text), 0, text)

    def test_one_sign_bent_of_twenty(self):
        for tree in trees_of_twenty()[::5]:
            text = tree_text(tree)
            for other in bent(text, "0 ()"):
                self.assertEqual(place_of(read_parting, other), None if other == text else 0, other)

    def test_parts_in_another_sequence(self):
        for tree in SMALL[1:] + trees_of_twenty():
            tree = in_sequence(tree)
            self.assertEqual(read_parting(text_as_it_stands(tree)), parting_of(tree))
            for other in swapped(tree):
                self.assertEqual(place_of(read_parting, text_as_it_stands(other)), 0)

    def test_persons_that_are_not_there(self):
        for text in ("1", "(0 2)", "(1 2)", "(0 0)", "(0 1 2)", "((0 1) 3)", "((0 1) 1)", "((0 1) (0 2))", "(0 20)"):
            self.assertEqual(place_of(read_parting, text), 0)
        whole = text_as_it_stands(comb(TWENTY))
        self.assertIsNone(place_of(read_parting, whole))
        self.assertEqual(place_of(read_parting, f"({whole} 20)"), 0)
        self.assertEqual(place_of(read_parting, whole.replace("19", "20")), 0)
        self.assertEqual(place_of(read_parting, whole.replace("19", "18")), 0)

    def test_other_strings(self):
        texts = [
            "", " ", "-", "()", "( )", "(0)", "((0))", "(0 1", "0 1)", "(0 1))", "((0 1)", ")(", "(0  1)", " (0 1)",
            "(0 1) ", "( 0 1)", "(0 1 )", "(0 01)", "(00 1)", "(-0 1)", "(+0 1)", "(0 1)\n", "\n", "[0 1]", "(0,1)",
            "(0 (1))", "((0) 1)", "((0 1))", "(0 1)(2 3)", "(0 1) (2 3)", "((0 1)(2 3))", "(0 1) 2", "(0(1 2))",
            "((0 1)2)", "None", "[]", "(0 1.0)", "(0 1_0)", "(0 (1 2)) ", "abc", "\\", "(0\n1)", "0 ", "00", "-0",
            "0\n",
        ]
        for text in texts:
            self.assertEqual(place_of(read_parting, text), 0, text)

    def test_long_strings(self):
        texts = [
            "(" * 8000, ")" * 8000, "0" * 8000, " " * 8000, "9" * 8000, "() " * 2600, "(0 1) " * 1300, "0 " * 4000,
            "(" * 2600 + "0 " * 1300 + ")" * 2600, "(0 " * 2600, "(0 " * 2000 + "1" + ")" * 1999, "(-" * 4000,
        ]
        for text in texts:
            self.assertEqual(place_of(read_parting, text), 0, text[:20])


class ComingTexts(unittest.TestCase):

    def test_all_coming_lists_of_few_persons(self):
        for tree in SMALL:
            coming = coming_of(parting_of(tree))
            text = " ".join(str(item) for item in coming) or "-"
            self.assertEqual(write_coming(coming), text)
            self.assertEqual(read_coming(text), coming)

    def test_twenty_persons(self):
        for coming in comings_of_twenty():
            for many in range(20):
                text = " ".join(map(str, coming[:many])) or "-"
                self.assertEqual(write_coming(coming[:many]), text)
                self.assertEqual(read_coming(text), coming[:many])

    def test_by_hand(self):
        self.assertEqual((write_coming([]), read_coming("-")), ("-", []))
        self.assertEqual((write_coming([0, -1, 2]), read_coming("0 -1 2")), ("0 -1 2", [0, -1, 2]))

    def test_all_short_strings(self):
        read = 0
        for many in range(8):
            for signs in product("01- ", repeat=many):
                text = "".join(signs)
                self.assertEqual(place_of(read_coming, text), first_bad_word(text), text)
                if first_bad_word(text) is None:
                    self.assertEqual(write_coming(read_coming(text)), text)
                    read += 1
        # The empty list, one of one item, three of two, nine of three of the items -1, 0 and 1, and some of four.
        self.assertGreater(read, 14)

    def test_one_sign_bent(self):
        for coming in [[0], [0, 1], [0, -1, 2], [0, 0, -2, 3]] + comings_of_twenty()[::4]:
            for text in bent(write_coming(coming), "0129 -+\n(x"):
                self.assertEqual(place_of(read_coming, text), first_bad_word(text), text)

    def test_one_word_bent(self):
        dice = Dice(3)
        words = ["", "-", "0", "00", "-0", "+1", "1 ", "01", "-01", "19", "-19", "20", "0x", "1.0", "1_0", "x"]
        words.append("9" * 31)
        for coming in comings_of_twenty():
            for at in range(19):
                texts = [str(item) for item in coming]
                texts[at] = dice.one_of(words)
                text = " ".join(texts)
                self.assertEqual(place_of(read_coming, text), first_bad_word(text), text)

    def test_numbers_beyond_the_limits(self):
        for place in range(19):
            text = " ".join(["0"] * place)
            for item in (place + 1, -(place + 1), 99):
                self.assertEqual(place_of(read_coming, f"{text} {item}".strip()), place)
            for item in (place, -place):
                self.assertIsNone(place_of(read_coming, f"{text} {item}".strip()))

    def test_words_too_many(self):
        for coming in comings_of_twenty():
            text = write_coming(coming)
            for more in ("0", "-0", "", "19", "x", "0 0", "0 x"):
                self.assertEqual(place_of(read_coming, f"{text} {more}"), 19)

    def test_other_strings(self):
        places = {
            "": 0, " ": 0, "  ": 0, " 0": 0, "0 ": 1, "0  0": 1, "0 0 ": 2, "- 0": 1, "- ": 1, " -": 0, "--": 0,
            "- -": 1, "0 -": 1, "-0": 0, "1": 0, "-1": 0, "0 2": 1, "0 -2": 1, "0 01": 1, "0 +1": 1, "0 1 x": 2,
            "0,0": 0, "0\n": 0,
            "\n": 0, "0\n0": 0, "0 0\n": 1, "0 1 -3": 2, "[0]": 0, "0 0 0 4 9": 3, "x 9": 0, "-\n": 0, "- x y": 1,
            "0 1 2 3 -5 x": 4, "9" * 8000: 0, " " * 8000: 0, "0 " * 4000: 19, "-" * 8000: 0, "- " * 4000: 1,
        }
        for text, place in places.items():
            self.assertEqual(place_of(read_coming, text), place, text[:30])

    def test_partings_by_their_texts(self):
        for tree in trees_of_twenty() + SMALL:
            text = write_coming(coming_of(parting_of(tree)))
            self.assertEqual(parting_by(read_coming(text)), read_parting(tree_text(tree)))


class Unlike(unittest.TestCase):

    def test_each_value_has_one_text(self):
        trees = SMALL + trees_of_twenty()
        self.assertEqual(len({write_parting(parting_of(tree)) for tree in trees}), len(
            {str(parting_of(tree)) for tree in trees}))
        comings = [coming_of(parting_of(tree)) for tree in trees]
        self.assertEqual(len({write_coming(coming) for coming in comings}), len({str(coming) for coming in comings}))


if __name__ == "__main__":
    unittest.main()
