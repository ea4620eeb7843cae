"""A parting that is told bit by bit."""

from twopartings.basics import MOST_PERSONS, need_index, need_person
from twopartings.comings import coming_of
from twopartings.distances import exchanged
from twopartings.errors import NothingToUndo, Refused
from twopartings.leaving import entered, need_node, without


class Company:
    """A parting, at first of nobody, that persons enter and leave."""

    def __init__(self):
        # Nobody is None here. No parting that is kept here is ever changed, so that twins can share them.
        self._now = None
        self._past = []

    def __len__(self):
        return len(self._past)

    @property
    def persons(self):
        """How many persons there are."""
        return 0 if self._now is None else len(self._now) + 1

    @property
    def parting(self):
        """The parting of the persons, [] for nobody, too."""
        return [] if self._now is None else [list(group) for group in self._now]

    @property
    def coming(self):
        """The coming list of the parting, [] for nobody, too."""
        return [] if self._now is None else coming_of(self._now)

    def _become(self, parting):
        """Take this parting, or None, and keep the former one for undo."""
        self._past.append(self._now)
        self._now = parting

    def enter(self, node=0):
        """A newcomer with the next number comes by this item."""
        if self.persons == MOST_PERSONS:
            raise Refused("full")
        if self._now is None:
            # The first person has the one item that the second one has: 0.
            need_node(node, 1)
            self._become([])
        else:
            self._become(entered(self._now, node))

    def leave(self, person):
        """A person leaves, perhaps the only one."""
        need_person(person, self.persons)
        self._become(None if self.persons == 1 else without(self._now, person))

    def exchange(self, group, person):
        """The person's part of a group is exchanged against what stands beside the group."""
        self._become(exchanged(self.parting, group, person))

    def undo(self):
        """Undo the last call that changed the company."""
        if self._past == []:
            raise NothingToUndo("no call is left to undo")
        self._now = self._past.pop()

    def mark(self):
        """How many calls that changed the company hold."""
        return len(self._past)

    def undo_to(self, index):
        """Undo until so many of these calls are left."""
        need_index(index, len(self._past) + 1)
        while len(self._past) > index:
            self.undo()

    def twin(self):
        """An independent copy, which can undo the same calls."""
        other = Company()
        other._now = self._now
        other._past = list(self._past)
        return other
