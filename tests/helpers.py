"""What the tests share: partings built from trees, apart from the program, and objects that are wrong.

A tree is a person, or a tuple of two trees. What the document says of groups is read off the tree here, so
that the program, which works on lists of groups, is compared with another way to the same answer.
"""

from fractions import Fraction
from itertools import combinations, product
from math import comb as binomial

from twopartings.errors import (
    Crossing, InvalidGroup, InvalidIndex, InvalidNode, InvalidPerson, InvalidText, NothingToUndo, PartError, Refused,
)
from twopartings.live import Company

TWENTY = list(range(20))


def members(tree):
    """The persons of a tree, ascending."""
    if isinstance(tree, int):
        return [tree]
    return sorted(members(tree[0]) + members(tree[1]))


def inner_trees(tree):
    """The tree and all trees in it that are no single persons."""
    if isinstance(tree, int):
        return []
    return [tree] + inner_trees(tree[0]) + inner_trees(tree[1])


def parting_of(tree):
    return sorted(members(inner) for inner in inner_trees(tree))


def all_trees(persons):
    """Each way to part these persons in two, again and again, once."""
    if len(persons) == 1:
        return [persons[0]]
    first, rest = persons[0], persons[1:]
    found = []
    for size in range(len(rest)):
        for chosen in combinations(rest, size):
            others = [person for person in rest if person not in chosen]
            found += [(one, other) for one in all_trees([first, *chosen]) for other in all_trees(others)]
    return found


def tree_parts(tree):
    """The parts of a tree, that with the least person first."""
    return sorted([members(tree[0]), members(tree[1])], key=lambda part: part[0])


def tree_maker(tree):
    return max(members(tree[0])[0], members(tree[1])[0])


def tree_depth(tree, person):
    if isinstance(tree, int):
        return 0
    return 1 + tree_depth(tree[0] if person in members(tree[0]) else tree[1], person)


def tree_least(tree, one, other):
    """The persons of the least tree with both persons."""
    for part in tree:
        if one in members(part) and other in members(part):
            return tree_least(part, one, other)
    return members(tree)


def cut_tree(tree, names):
    """The tree without the persons that have no name in the dict, the others renamed by it; None if nobody stays."""
    if isinstance(tree, int):
        return names.get(tree)
    one, other = cut_tree(tree[0], names), cut_tree(tree[1], names)
    if one is None or other is None:
        return other if one is None else one
    return (one, other)


def enter_tree(tree, item, person):
    """The tree with one person more, by the item of a coming list."""
    if isinstance(tree, int):
        return (tree, person) if tree == item else tree
    if item < 0 and tree_maker(tree) == -item:
        return (tree, person)
    return (enter_tree(tree[0], item, person), enter_tree(tree[1], item, person))


def tree_by(coming):
    """The tree to which a coming list leads."""
    tree = 0
    for person, item in enumerate(coming, start=1):
        tree = enter_tree(tree, item, person)
    return tree


def tree_without(tree, persons, person):
    """The tree without a person, those above it called one less; None if nobody stays."""
    names = {other: other - (other > person) for other in range(persons) if other != person}
    return cut_tree(tree, names)


def exchange_tree(tree, group, person):
    """The tree with the person's part of a group exchanged against what stands beside the group."""
    if isinstance(tree, int):
        return tree
    for inner, beside in (tree, tree[::-1]):
        if members(inner) == group:
            kept, moved = inner if person in members(inner[0]) else inner[::-1]
            return ((kept, beside), moved)
    return (exchange_tree(tree[0], group, person), exchange_tree(tree[1], group, person))


def tree_coming(tree):
    """The coming list of a tree: whom, or which group, each person stands beside when it has just come."""
    found = []
    for person in members(tree)[1:]:
        come = cut_tree(tree, {other: other for other in range(person + 1)})
        part = [inner for inner in inner_trees(come) if person in inner][0]
        beside = part[0] if part[1] == person else part[1]
        found.append(beside if isinstance(beside, int) else -tree_maker(beside))
    return found


def free_persons(coming):
    """Who leaves no trace, in the words of point 12."""
    if not coming:
        return [0]
    behind = {person: coming[person:] for person in range(1, len(coming) + 1)}
    return [person for person, items in behind.items() if person not in items and -person not in items]


def tree_histories(tree):
    """How many histories make the groups of a tree: those of both parts, put into one sequence in any way."""
    if isinstance(tree, int):
        return 1
    many = [len(inner_trees(part)) for part in tree]
    return binomial(sum(many), many[0]) * tree_histories(tree[0]) * tree_histories(tree[1])


def tree_text(tree):
    """The text of point 18."""
    if isinstance(tree, int):
        return str(tree)
    one, other = sorted(tree, key=lambda part: members(part)[0])
    return f"({tree_text(one)} {tree_text(other)})"


class Told:
    """A company as the calls tell it, kept as a tree (None for nobody); it raises what point 17 has it raise."""

    def __init__(self):
        self.tree = None
        self.past = []

    def persons(self):
        return 0 if self.tree is None else len(members(self.tree))

    def parting(self):
        return [] if self.tree is None else parting_of(self.tree)

    def coming(self):
        return [] if self.tree is None else tree_coming(self.tree)

    def change(self, tree):
        self.past.append(self.tree)
        self.tree = tree

    def enter(self, node=0):
        if self.persons() == 20:
            raise Refused("full")
        if abs(node) > max(self.persons() - 1, 0):
            raise InvalidNode("node")
        self.change(0 if self.tree is None else enter_tree(self.tree, node, self.persons()))

    def leave(self, person):
        if not 0 <= person < self.persons():
            raise InvalidPerson("person")
        self.change(tree_without(self.tree, self.persons(), person))

    def exchange(self, group, person):
        if group not in self.parting() or len(group) == self.persons():
            raise InvalidGroup("group")
        if person not in group:
            raise InvalidPerson("person")
        self.change(exchange_tree(self.tree, group, person))

    def undo(self):
        if not self.past:
            raise NothingToUndo("nothing")
        self.tree = self.past.pop()

    def undo_to(self, index):
        if not 0 <= index <= len(self.past):
            raise InvalidIndex("index")
        while len(self.past) > index:
            self.undo()

    def twin(self):
        other = Told()
        other.tree, other.past = self.tree, self.past[:]
        return other


class Dice:
    """Numbers in no order that one could see, the same ones at each run."""

    def __init__(self, seed):
        self.state = seed

    def below(self, many):
        self.state = (self.state * 1103515245 + 12345) % 2 ** 31
        return (self.state >> 12) % many

    def one_of(self, items):
        return items[self.below(len(items))]


def comb(persons):
    """A tree from which the persons leave singly, the last one first."""
    tree = persons[0]
    for person in persons[1:]:
        tree = (tree, person)
    return tree


def halved(persons):
    if len(persons) == 1:
        return persons[0]
    middle = len(persons) // 2
    return (halved(persons[:middle]), halved(persons[middle:]))


def trees_of_twenty():
    """Unlike trees of twenty persons: combs, halves, mixed numbers, and some that coming lists lead to."""
    mixed = [(7 * place + 3) % 20 for place in TWENTY]
    trees = [comb(TWENTY), comb(TWENTY[::-1]), comb(mixed), halved(TWENTY), halved(mixed)]
    trees.append((comb(mixed[:11]), halved(mixed[11:])))
    return trees + [tree_by(coming) for coming in comings_of_twenty()]


def comings_of_twenty():
    """Coming lists of twenty persons: the least and the greatest items, and some between."""
    found = [[0] * 19, TWENTY[:19], [-at for at in range(19)]]
    found.append([at if at % 2 else -at for at in range(19)])
    for seed in range(1, 9):
        found.append([(seed * 31 + at * at * 17 + at * 5) % (2 * at + 1) - at for at in range(19)])
    return found


def cross(one, other):
    one, other = set(one), set(other)
    return bool(one & other and one - other and other - one)


def all_groups(persons):
    """All groups of so many persons, the lesser ones first."""
    return [list(group) for size in range(2, persons + 1) for group in combinations(range(persons), size)]


def families(persons):
    """All families of groups of so many persons."""
    found = [[]]
    for group in all_groups(persons):
        found += [family + [group] for family in found if not any(cross(group, told) for told in family)]
    return found


def mixed(items, seed):
    """The items in another sequence, the same one each time."""
    places = sorted(range(len(items)), key=lambda place: ((place + seed) * (place + 2 * seed + 5) * 13 % 37, place))
    return [items[place] for place in places]


def trees_with(persons, told):
    """All trees of these persons that have all told groups, of which no two cross."""
    inner = [set(group) for group in told if set(group) < set(persons)]
    units = [group for group in inner if not any(group < other for other in inner)]
    units += [{person} for person in persons if not any(person in unit for unit in units)]
    below = [trees_with(sorted(unit), inner) if len(unit) > 1 else list(unit) for unit in units]
    shapes = all_trees(list(range(len(units))))
    return [cut_tree(shape, dict(enumerate(chosen))) for shape in shapes for chosen in product(*below)]


def told_of_twenty():
    """Families of twenty persons with few groups and with many, with the company and without it, in any sequence."""
    found = [[], [TWENTY], [[3, 17]], [TWENTY[:19]], [TWENTY[1:], TWENTY[2:]], [TWENTY, [0, 1], [18, 19]]]
    found += [[[at, at + 10] for at in range(10)], [[at, at + 1] for at in range(18, -1, -2)]]
    found += [[TWENTY[5 * at:5 * at + 5] for at in (2, 0, 3, 1)], [TWENTY[:at] for at in (3, 12, 7, 18)]]
    for seed, tree in enumerate(trees_of_twenty()):
        groups = mixed(parting_of(tree), seed)
        found += [groups, groups[:18 - seed], groups[:seed + 1], groups[seed::2]]
    return found


def nearly_whole_of_twenty():
    """Families of twenty persons that leave open some groups of a parting, so that few partings have them."""
    found = []
    for seed, tree in enumerate(trees_of_twenty()):
        inner = [group for group in mixed(parting_of(tree), seed) if len(group) < 20]
        found += [inner, inner[1:], inner[2:] + [TWENTY], inner[:15], inner[seed % 4:][:14]]
    return [told for told in found if len(trees_with(TWENTY, told)) < 1000]


def share(top, bottom):
    """The fraction as a tuple."""
    found = Fraction(top, bottom)
    return (found.numerator, found.denominator)


def shares(numbers, many):
    """The shares in which a number of a list is 0, 1, .. so many less one."""
    return [share(numbers.count(number), len(numbers)) for number in range(many)]


def mean(numbers):
    return share(sum(numbers), len(numbers))


def nested(depth):
    """An empty list, so many lists deep."""
    thing = []
    for _ in range(depth):
        thing = [thing]
    return thing


def odd_things():
    """Objects of all the kinds that may be passed; none is a parting, a group, a list of persons or a coming list."""
    return [
        None, True, False, 0, 1, -1, 10 ** 31 - 1, -(10 ** 31 - 1), "", "0", "[]", "[[0, 1]]",
        (), ((0, 1),), ([0, 1],), {}, {"0": [0, 1]}, {"a": {"b": [1]}},
        PartError("no"), Crossing(0, 2), Refused("full"), InvalidText(3), Company(), [Company()], [[0, Company()]],
        [None], [True], ["0"], [[]], [()], [{}], [Refused("full")], [PartError("no"), 1],
        [(0, 1)], [[0, "1"]], [[0, None]], [[0, True]], [[False, 1]], [["0", "1"]], [[0, [1]]], [[[0, 1]]],
        [[0, 1], None], [[0, 1], [0, 1, {}]], [[0, 1], [0, 1, Crossing(0, 1)]],
        [[0, 10 ** 30]], [[-(10 ** 30), 0]], [10 ** 30], [-(10 ** 30)],
        nested(18), [nested(10), nested(11)], [[nested(5)] * 10] * 20, [[0, 1]] * 600, list(range(1900)),
    ]


def odd_for(name):
    """The odd things that are wrong as this argument: one of them is a list of pairs, two are lists of partings."""
    right = {"pairs": [[(0, 1)]], "partings": [[[]], [[[0, 1]]]]}.get(name, [])
    return [thing for thing in odd_things() if thing not in right]


def list_ids(thing):
    """The identities of all lists in a list, itself included."""
    if not isinstance(thing, list):
        return []
    return [id(thing)] + [number for item in thing for number in list_ids(item)]


def error_of(call, *given, **named):
    """The very class of what a call raises, None if it raises nothing."""
    try:
        call(*given, **named)
    except Exception as error:  # any error at all: the test tells which one is right
        return type(error)
    return None
