"""The errors that the package raises."""


class HallError(ValueError):
    """The base of all errors of this package."""


class InvalidGuests(HallError):
    """The number of guests is not from 1 to 20."""


class InvalidWeight(HallError):
    """The weight is not from 1 to 10 ** 12."""


class InvalidGuest(HallError):
    """There is no such guest."""


class InvalidSeating(HallError):
    """An object is no seating, or one of another number of guests."""


class InvalidComing(HallError):
    """An object is no coming list."""


class InvalidNames(HallError):
    """An object is no list with each guest once."""


class InvalidTables(HallError):
    """An object is no list of the tables of a seating."""


class InvalidSizes(HallError):
    """An object is no list of sizes as it is needed."""


class InvalidGroup(HallError):
    """An object is no group of guests as it is needed."""


class InvalidGroups(HallError):
    """An object is no list of groups without a common guest."""


class InvalidFacts(HallError):
    """An object is no list of facts, or no fact, as it is needed."""


class InvalidDistances(HallError):
    """An object is no list of distances."""


class InvalidNumber(HallError):
    """An integer is beyond what its function allows."""


class InvalidIndex(HallError):
    """Nothing that is numbered has this index."""


class NoSeating(HallError):
    """There is no seating of the kind that is needed."""


class NothingToUndo(HallError):
    """No call of a hall holds that could be undone."""


class Refused(HallError):
    """A hall cannot do what it is told; word says why."""

    def __init__(self, word):
        super().__init__(f"refused: {word}")
        self.word = word


class InvalidText(HallError):
    """A string is no valid text; place is the number of the word at fault."""

    def __init__(self, place):
        super().__init__(f"no valid text has this word with number {place}")
        self.place = place
