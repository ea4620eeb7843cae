"""Partings by their numbers: in the sequence of their coming lists, and in that of their pairs."""

from twopartings.basics import mask_of, need_index
from twopartings.comings import come_into, coming_of, parting_by, place_of
from twopartings.errors import Lacking
from twopartings.pairings import pairs_of, parting_by_pairs
from twopartings.partings import persons_of
from twopartings.told import all_units, count_going_on, count_partings, need_family, need_told, ways_of


def leads_on(place, told, person):
    """Whether a person, coming into a place, keeps open the way to a told group; both are masks."""
    known = told & ((1 << person) - 1)
    within = (place & known) == place
    if (told >> person) & 1 == 1:
        return known == 0 or within
    return known == place or not within


def open_items(made, told, person):
    """The items, ascending, by which the next person can come on the way to all told groups (as masks)."""
    places = {item: mask_of(place_of(made, item)) for item in range(1 - person, person)}
    return [item for item, place in places.items() if all([leads_on(place, mask, person) for mask in told])]


def nth_with(persons, told, index):
    """The parting with this index among those with all told groups, as their coming lists ascend."""
    need_told(persons, told)
    need_family(told)
    unit_lists = all_units(persons, told)
    need_index(index, count_going_on(unit_lists, 0))
    masks = [mask_of(group) for group in told]
    made = []
    for person in range(1, persons):
        # By each of the open items equally many partings go on.
        at, index = divmod(index, count_going_on(unit_lists, person + 1))
        made = come_into(made, open_items(made, masks, person)[at], person)
    return sorted(made)


def index_with(parting, told):
    """The index of a parting among those with all told groups, as their coming lists ascend."""
    persons = persons_of(parting)
    need_told(persons, told)
    need_family(told)
    if not all([group in parting for group in told]):
        raise Lacking("the parting lacks a told group")
    unit_lists = all_units(persons, told)
    masks = [mask_of(group) for group in told]
    index, made = 0, []
    for person, item in enumerate(coming_of(parting), start=1):
        at = open_items(made, masks, person).index(item)
        index = index + at * count_going_on(unit_lists, person + 1)
        made = come_into(made, item, person)
    return index


def nth_parting(persons, index):
    """The parting with this index, as their coming lists ascend."""
    return nth_with(persons, [], index)


def parting_index(parting):
    """The index of a parting, as their coming lists ascend."""
    return index_with(parting, [])


def next_parting(parting):
    """The parting with the next coming list, None behind the last."""
    coming = coming_of(parting)
    for at in range(len(coming) - 1, -1, -1):
        if coming[at] < at:
            return parting_by(coming[:at] + [coming[at] + 1] + [-low for low in range(at + 1, len(coming))])
    return None


def nth_by_pairs(persons, index):
    """The parting with this index, as their pairs ascend."""
    need_index(index, count_partings(persons))
    free = list(range(2 * persons - 2))
    pairs = []
    while free:
        at, index = divmod(index, ways_of(len(free) // 2))
        pairs.append((free[0], free[at + 1]))
        free = free[1:at + 1] + free[at + 2:]
    return parting_by_pairs(pairs)


def index_by_pairs(parting):
    """The index of a parting, as their pairs ascend."""
    index = 0
    free = list(range(2 * persons_of(parting) - 2))
    for _, greater in pairs_of(parting):
        at = free.index(greater) - 1
        index = index + at * ways_of(len(free) // 2)
        free = free[1:at + 1] + free[at + 2:]
    return index
