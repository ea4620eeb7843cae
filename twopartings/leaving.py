"""Persons who leave a parting and persons who enter it, and who leaves no trace."""

from twopartings.basics import MOST_PERSONS, fraction, is_number, need_person, need_persons
from twopartings.comings import coming_of, parting_by
from twopartings.errors import InvalidNode, InvalidParting, NoPerson
from twopartings.partings import cut, persons_of


def without(parting, person):
    """The parting of the others when a person has left."""
    persons = persons_of(parting)
    need_person(person, persons)
    if persons == 1:
        raise NoPerson("nobody would be left")
    return cut(parting, [other for other in range(persons) if other != person])


def coming_without(coming, person):
    """The coming list of the parting of a coming list when a person has left."""
    return coming_of(without(parting_by(coming), person))


def need_node(node, persons):
    """Raise InvalidNode unless this is an item by which someone can come to so many persons."""
    if not is_number(node) or not -persons < node < persons:
        raise InvalidNode(f"no item of someone who comes to {persons}")


def entered(parting, node):
    """The parting with one person more, who has the greatest number and comes by this item."""
    persons = persons_of(parting)
    if persons == MOST_PERSONS:
        raise InvalidParting("there is no room for one person more")
    need_node(node, persons)
    return parting_by(coming_of(parting) + [node])


def traceless(parting):
    """The ascending list of the persons who leave no trace."""
    coming = coming_of(parting)
    if coming == []:
        return [0]
    # An item that is a person or its negative can only stand behind that person's own item.
    traced = {abs(item): True for item in coming}
    return [person for person in range(1, len(coming) + 1) if person not in traced]


def is_traceless(parting, person):
    """Whether the person leaves no trace."""
    need_person(person, persons_of(parting))
    return person in traceless(parting)


def traceless_share(persons, person):
    """The share of the partings in which the person leaves no trace."""
    need_persons(persons)
    need_person(person, persons)
    if person == 0:
        return (1, 1) if persons == 1 else (0, 1)
    return fraction(2 * person - 1, 2 * persons - 3)


def traceless_counts(persons):
    """Item l of n + 1: in how many partings just l persons leave no trace."""
    need_persons(persons)
    if persons == 1:
        return [0, 1]
    counts = [1]
    for come in range(1, persons):
        # Of those who have come, 0 apart, some are still free of trace. A newcomer by item 0, or by the item of
        # one who is traced, is one free person more; by the item of a free one, it takes that one's place.
        counts = [
            (2 * (come - free) + 1) * fewer + 2 * free * alike
            for free, (fewer, alike) in enumerate(zip([0] + counts, counts + [0]))
        ]
    return counts + [0]
