"""Two partings of the same persons: how far they are apart, what lies beside one, and to whom both are alike."""

from twopartings.basics import is_group, is_person, is_person_list
from twopartings.errors import InvalidGroup, InvalidParting, InvalidPerson
from twopartings.partings import both_parts, cut, is_parting, parts_by_size, persons_of
from twopartings.told import ways_of


def need_two(parting, second):
    """Raise InvalidParting unless these are two partings of as many persons; tells how many."""
    persons = persons_of(parting)
    if not is_parting(second) or len(second) != len(parting):
        raise InvalidParting("second is no parting of as many persons")
    return persons


def distance(parting, second):
    """How many groups of one of two partings the other one lacks."""
    need_two(parting, second)
    return len([group for group in parting if group not in second])


def joined_ways(one, other):
    """The ways of part_ways or open_ways for both parts of a group together."""
    found = {}
    for (units, shared), ways in one.items():
        for (more, beside), times in other.items():
            both = (units + more, shared + beside)
            found[both] = found.get(both, 0) + ways * times
    return found


def open_ways(parting, group):
    """What part_ways tells for a group that is not chosen to be shared, its units left unparted."""
    one, other = both_parts(parting, group)
    return joined_ways(part_ways(parting, one), part_ways(parting, other))


def part_ways(parting, part):
    """For a part of a valid parting: (units, shared) -> ways, in how many ways partings share groups within it.

    Where some groups are chosen, [units] partings of the units of each are counted with all of these, and the
    same number is taken off again from those that share one less: what remains counts each parting just once,
    by all the groups that it shares.
    """
    if len(part) == 1:
        return {(1, 0): 1}
    apart = open_ways(parting, part)
    found = {at: apart[at] for at in apart}
    for (units, shared), ways in apart.items():
        for beside, sign in ((shared + 1, 1), (shared, -1)):
            found[1, beside] = found.get((1, beside), 0) + sign * ways * ways_of(units)
    return found


def at_distances(parting):
    """Item d: how many partings are at distance d from this one."""
    persons = persons_of(parting)
    if persons == 1:
        return [1]
    counts = [0] * (persons - 1)
    for (units, shared), ways in open_ways(parting, list(range(persons))).items():
        counts[persons - 2 - shared] += ways * ways_of(units)
    return counts


def swapped(parting, group, part):
    """A valid parting with a part of a group joined to what stands beside the group, in the place of the group."""
    above = [other for other in parting if len(other) > len(group) and group[0] in other]
    beside = [person for person in min(above, key=len) if person not in group]
    return sorted([list(other) for other in parting if other != group] + [sorted(part + beside)])


def exchanged(parting, group, person):
    """The parting with the person's part of a group exchanged against what stands beside the group."""
    persons = persons_of(parting)
    if not is_group(group, persons) or group not in parting or len(group) == persons:
        raise InvalidGroup("no group of the parting, or the company")
    if not is_person(person, persons) or person not in group:
        raise InvalidPerson("no person of the group")
    return swapped(parting, group, [part for part in both_parts(parting, group) if person in part][0])


def neighbours(parting):
    """The ascending list of all partings at distance 1."""
    persons = persons_of(parting)
    inner = [group for group in parting if len(group) < persons]
    return sorted([swapped(parting, group, part) for group in inner for part in both_parts(parting, group)])


def alike_within(best, one, halves, other, quarters):
    """The most persons of two groups with these parts to whom both partings are cut alike."""
    found = [best[half, other] for half in halves] + [best[one, quarter] for quarter in quarters]
    found.append(best[halves[0], quarters[0]] + best[halves[1], quarters[1]])
    found.append(best[halves[0], quarters[1]] + best[halves[1], quarters[0]])
    return max(found, key=len)


def most_alike(parting, second):
    """Of valid partings: as many persons as there can be, ascending, to whom both are cut alike."""
    best = {}
    for one, halves in parts_by_size(parting).items():
        for other, quarters in parts_by_size(second).items():
            if halves and quarters:
                best[one, other] = alike_within(best, one, halves, other, quarters)
            else:
                best[one, other] = [person for person in one if person in other]
    company = tuple(range(len(parting) + 1))
    return sorted(best[company, company])


def agreeing(parting, second):
    """The greatest number of persons to whom both are cut alike."""
    need_two(parting, second)
    return len(most_alike(parting, second))


def an_agreeing(parting, second):
    """As many persons as there can be, ascending, to whom both are cut alike."""
    need_two(parting, second)
    return most_alike(parting, second)


def shows_agreeing(parting, second, thing):
    """Whether any object is an ascending list of persons, not empty, to whom both are cut alike."""
    if not is_person_list(thing, need_two(parting, second)) or thing == []:
        return False
    return cut(parting, thing) == cut(second, thing)
