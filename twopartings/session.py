"""A session: lines that are told to one company, and its answers."""

from twopartings.errors import InvalidPersons, PartError
from twopartings.families import histories
from twopartings.leaving import traceless
from twopartings.live import Company
from twopartings.numbers import parting_index
from twopartings.partings import depth_of, least_group
from twopartings.texts import numbers_text, write_coming, write_parting
from twopartings.told import count_partings

MOST_DIGITS = 31


class Desk:
    """Where the company of a session stands, until a new one takes its place."""

    def __init__(self):
        self.company = Company()


def do_enter(desk, node):
    desk.company.enter(node)
    return "ok"


def do_leave(desk, person):
    desk.company.leave(person)
    return "ok"


def do_undo(desk):
    desk.company.undo()
    return "ok"


def do_back(desk, index):
    desk.company.undo_to(index)
    return "ok"


def do_new(desk):
    desk.company = Company()
    return "ok"


def told_parting(desk):
    """The parting at the desk; InvalidPersons if nobody is there."""
    if desk.company.persons == 0:
        raise InvalidPersons("nobody is there")
    return desk.company.parting


def tell_parting(desk):
    return "-" if desk.company.persons == 0 else write_parting(desk.company.parting)


def tell_coming(desk):
    return write_coming(desk.company.coming)


def tell_index(desk):
    return str(parting_index(told_parting(desk)))


def tell_count(desk):
    return str(count_partings(desk.company.persons))


def tell_traceless(desk):
    return numbers_text(traceless(told_parting(desk)))


def tell_histories(desk):
    return str(histories(told_parting(desk)))


def tell_depth(desk, person):
    return str(depth_of(told_parting(desk), person))


def tell_least(desk, one, other):
    return numbers_text(least_group(told_parting(desk), one, other))


ACTIONS = {
    "enter": do_enter, "leave": do_leave, "undo": do_undo, "back": do_back, "new": do_new,
    "parting": tell_parting, "coming": tell_coming, "index": tell_index, "count": tell_count,
    "traceless": tell_traceless, "histories": tell_histories, "depth": tell_depth, "least": tell_least,
}
# For each word behind the first one: N where a number may be below 0, I where it may not.
WORDS = {
    "enter": "N", "leave": "I", "undo": "", "back": "I", "new": "", "parting": "", "coming": "", "index": "",
    "count": "", "traceless": "", "histories": "", "depth": "I", "least": "II",
}


def number_by(word, letter):
    """The number that a word tells, None if it tells none."""
    digits = word.removeprefix("-") if letter == "N" else word
    if not digits.isdecimal() or len(digits) > MOST_DIGITS:
        return None
    # Leading zeros, and a minus ahead of 0, do not come back.
    return int(word) if str(int(word)) == word else None


def answer(desk, line):
    """The answer to one line."""
    words = line.split(" ")
    letters = WORDS.get(words[0])
    if letters is None or len(words) != len(letters) + 1:
        return "?"
    numbers = [number_by(word, letter) for word, letter in zip(words[1:], letters)]
    if None in numbers:
        return "?"
    action = ACTIONS[words[0]]
    try:
        return action(desk, *numbers)
    except PartError as error:
        return type(error).__name__


def session(lines):
    """The answers to the lines of a string, one line for each."""
    desk = Desk()
    return "\n".join([answer(desk, line) for line in lines.split("\n")])
