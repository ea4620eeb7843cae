"""Texts of partings and of coming lists, exactly one for each."""

from twopartings.basics import MOST_PERSONS
from twopartings.errors import InvalidText
from twopartings.partings import both_parts, is_parting


def part_text(parting, part):
    """The text of a group or a person of a parting."""
    if len(part) == 1:
        return str(part[0])
    one, other = both_parts(parting, part)
    return f"({part_text(parting, one)} {part_text(parting, other)})"


def write_parting(parting):
    """The text of a parting."""
    return part_text(parting, list(range(len(parting) + 1)))


def groups_between(words):
    """The groups between the brackets among these words; InvalidText where nothing can be read at all."""
    persons_by_word = {str(person): person for person in range(MOST_PERSONS)}
    persons, opened, groups = [], [], []
    for word in words:
        if word == "(":
            opened.append(len(persons))
        elif word == ")" and opened:
            groups.append(sorted(persons[opened.pop():]))
        elif word in persons_by_word:
            persons.append(persons_by_word[word])
        else:
            raise InvalidText(0)
    return sorted(groups)


def read_parting(text):
    """The parting with this text."""
    parting = groups_between(text.replace("(", "( ").replace(")", " )").split(" "))
    # A parting has just one text, so any slip that was read over shows here.
    if not is_parting(parting) or write_parting(parting) != text:
        raise InvalidText(0)
    return parting


def numbers_text(numbers):
    """The numbers with single blanks between, - for none."""
    return " ".join([str(number) for number in numbers]) if numbers else "-"


def write_coming(coming):
    """The text of a coming list."""
    return numbers_text(coming)


def read_coming(text):
    """The coming list with this text."""
    words = text.split(" ")
    if words[0] == "-":
        if len(words) > 1:
            raise InvalidText(1)
        return []
    coming = []
    for place, word in enumerate(words):
        items = {str(item): item for item in range(-place, place + 1)}
        if word not in items or place >= MOST_PERSONS - 1:
            raise InvalidText(place)
        coming.append(items[word])
    return coming
