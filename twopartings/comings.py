"""Coming lists: how the persons of a parting come one after another."""

from twopartings.basics import MOST_PERSONS, is_number
from twopartings.errors import InvalidComing
from twopartings.partings import cut, persons_of, both_parts


def is_coming(thing):
    """Whether any object is a coming list."""
    if not isinstance(thing, list) or len(thing) >= MOST_PERSONS:
        return False
    return all([is_number(item) and -at <= item <= at for at, item in enumerate(thing)])


def item_of(parting, person):
    """The item of a person, from 1 on, in the coming list of a valid parting."""
    come = cut(parting, list(range(person + 1)))
    joined = min([group for group in come if person in group], key=len)
    # The newcomer has the greatest number, so it stands last in each of its groups.
    place = joined[:-1]
    if len(place) == 1:
        return place[0]
    return -both_parts(come, place)[1][0]


def coming_of(parting):
    """The coming list that leads to a parting."""
    return [item_of(parting, person) for person in range(1, persons_of(parting))]


def grown(group, place, person):
    """A group when a person comes in this place: larger if it lies above the place, else as it was."""
    if len(group) > len(place) and place[0] in group:
        return group + [person]
    return group


def place_of(made, item):
    """The place that an item tells, as a list of persons; made is what come_into has built so far."""
    return [item] if item >= 0 else made[-item - 1]


def come_into(made, item, person):
    """The groups when the next person has come by its item, the group with the maker i at index i - 1."""
    # A group is made when its maker comes, and whoever comes into it later is greater than the least
    # persons of both its parts: the maker and the index stay.
    place = place_of(made, item)
    return [grown(group, place, person) for group in made] + [place + [person]]


def parting_by(coming):
    """The parting to which a coming list leads."""
    if not is_coming(coming):
        raise InvalidComing("no coming list of one to twenty persons")
    made = []
    for person, item in enumerate(coming, start=1):
        made = come_into(made, item, person)
    return sorted(made)
