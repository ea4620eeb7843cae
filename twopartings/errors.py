"""The errors of the package, all of them below PartError."""


class PartError(ValueError):
    """What every error of this package is."""


class InvalidPersons(PartError):
    """The number of persons is not from 1 to 20."""


class InvalidPerson(PartError):
    """There is no such person, or it is named twice where persons must be unlike."""


class InvalidParting(PartError):
    """An object is no parting, or not one that can stand here."""


class InvalidPartings(PartError):
    """An object is no list of 1 to 20 partings of as many persons each."""


class InvalidComing(PartError):
    """An object is no coming list."""


class InvalidPairs(PartError):
    """An object is no list of pairs."""


class InvalidGroup(PartError):
    """An object is no group, or no list of persons, that can stand here."""


class InvalidGroups(PartError):
    """An object is no list of unlike groups."""


class InvalidNode(PartError):
    """A newcomer has no such item."""


class InvalidNumber(PartError):
    """A number or a size is out of its limits."""


class InvalidIndex(PartError):
    """There is nothing with this index."""


class NoPerson(PartError):
    """Nobody would be left."""


class Lacking(PartError):
    """A parting lacks a told group."""


class NothingToUndo(PartError):
    """No call is left that could be undone."""


class Crossing(PartError):
    """Two told groups cross: those with the indices first and second."""

    def __init__(self, first, second):
        super().__init__(f"the groups with the indices {first} and {second} cross")
        self.first = first
        self.second = second


class Refused(PartError):
    """A call is refused for the reason that word tells."""

    def __init__(self, word):
        super().__init__(f"refused: {word}")
        self.word = word


class InvalidText(PartError):
    """A string is no text: place tells where."""

    def __init__(self, place):
        super().__init__(f"no such text, by the word with the number {place}")
        self.place = place
