"""The errors of the package, each a direct subclass of HolesError."""


class HolesError(ValueError):
    """The base of all errors of the package."""


class InvalidScheme(HolesError):
    """A value that is no scheme."""


class InvalidHouses(HolesError):
    """A number of houses that is no integer from 1 to 20."""


class InvalidSize(HolesError):
    """A size of lots that is no integer from 1 to 10 ** 30 - 1."""


class InvalidNumber(HolesError):
    """Another number that is no integer of the range that is asked."""


class InvalidDigits(HolesError):
    """A value that is no list of at most 200 integers from 0 on."""


class InvalidIndex(HolesError):
    """An index that no book has."""


class InvalidRule(HolesError):
    """A value that is no rule."""


class InvalidBudget(HolesError):
    """A budget that is no integer from 0 on."""


class InvalidFlag(HolesError):
    """A value that is neither True nor False."""


class InvalidWish(HolesError):
    """A value that is no wish."""


class InvalidWishes(HolesError):
    """A value that is no list of different wishes."""


class InvalidLooks(HolesError):
    """A value that is no list of looks behind the events."""


class InvalidHouse(HolesError):
    """A value that is none of the houses of a desk."""


class InvalidEvent(HolesError):
    """A value that is no event of the houses of a desk."""


class InvalidCommand(HolesError):
    """A value that is no command, or none that can be run now."""


class OpenDeed(HolesError):
    """A take of a house that has an open deed."""


class NoDeed(HolesError):
    """An end or a fail of a house that has no open deed."""


class NothingToUndo(HolesError):
    """An undo without a call that can be taken back."""


class InvalidWeaving(HolesError):
    """A value that is no weaving: the index of the first wrong event, or None."""

    def __init__(self, index):
        super().__init__(f"no weaving: index {index}")
        self.index = index


class InvalidNumbers(HolesError):
    """A value that is no list of numbers: the index of the first wrong item, or None."""

    def __init__(self, index):
        super().__init__(f"no list of numbers: index {index}")
        self.index = index


class NotABook(HolesError):
    """Numbers that are no book: the index of the first one that cannot stand there."""

    def __init__(self, index):
        super().__init__(f"no book: index {index}")
        self.index = index


class Unseen(HolesError):
    """Numbers that one house cannot see: the index of the first one."""

    def __init__(self, index):
        super().__init__(f"not seen by one house: index {index}")
        self.index = index


class TooFewHouses(HolesError):
    """Too few houses for a book: the least number of them."""

    def __init__(self, least):
        super().__init__(f"too few houses: at least {least} are needed")
        self.least = least


class TooLong(HolesError):
    """More than is worked out: the limit."""

    def __init__(self, limit):
        super().__init__(f"too long: the limit is {limit}")
        self.limit = limit


class Refused(HolesError):
    """A take that the budget refuses: the amount that is more than it."""

    def __init__(self, amount):
        super().__init__(f"refused: {amount} is more than the budget")
        self.amount = amount


class InvalidText(HolesError):
    """A text that cannot be read: the index of the first wrong word, or None."""

    def __init__(self, word):
        super().__init__(f"no such text: word {word}")
        self.word = word
