"""The pairs of a parting: the numbers of both parts of each group."""

from twopartings.basics import MOST_PERSONS, is_ascending, is_number
from twopartings.errors import InvalidPairs
from twopartings.partings import both_parts, persons_of


def is_pair(thing):
    """Whether any object is a tuple (lesser, greater) of integers."""
    if not isinstance(thing, tuple) or len(thing) != 2:
        return False
    return all([is_number(item) for item in thing]) and is_ascending(thing)


def is_pairing(thing):
    """Whether any object is the list of the pairs of some parting."""
    if not isinstance(thing, list) or len(thing) >= MOST_PERSONS:
        return False
    if not all([is_pair(item) for item in thing]):
        return False
    numbers = sorted([number for pair in thing for number in pair])
    return is_ascending(thing) and numbers == list(range(2 * len(thing)))


def ready_pairs(parts, numbers):
    """Of the groups without a number whose parts have numbers: the tuples (numbers of the parts, group)."""
    return [
        ((min(numbers[one], numbers[other]), max(numbers[one], numbers[other])), group)
        for group, (one, other) in parts.items()
        if group not in numbers and one in numbers and other in numbers
    ]


def pairs_of(parting):
    """The ascending list of the pairs of a parting."""
    persons = persons_of(parting)
    parts = {tuple(group): tuple([tuple(part) for part in both_parts(parting, group)]) for group in parting}
    numbers = {(person,): person for person in range(persons)}
    pairs = []
    # All other groups lie in the parts of the company, so that it is the last one here by itself.
    for number in range(persons, 2 * persons - 1):
        pair, group = min(ready_pairs(parts, numbers))
        numbers[group] = number
        pairs.append(pair)
    return sorted(pairs)


def parting_by_pairs(pairs):
    """The parting from which a list of pairs comes."""
    if not is_pairing(pairs):
        raise InvalidPairs("no pairs of a parting of one to twenty persons")
    persons = len(pairs) + 1
    # What has a number stands at this index: the persons, then the groups in the sequence of their numbers.
    numbered = [[person] for person in range(persons)]
    waiting = list(pairs)
    while waiting:
        # The pairs are ascending: the first one whose numbers are both known has the least number.
        lesser, greater = [pair for pair in waiting if pair[1] < len(numbered)][0]
        waiting.remove((lesser, greater))
        numbered.append(sorted(numbered[lesser] + numbered[greater]))
    return sorted(numbered[persons:])
