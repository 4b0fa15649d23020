"""The errors of the package."""


class PartyError(ValueError):
    """The base of all errors that are not about a place, a guest, a pair or a version."""


class TooLarge(PartyError):
    """A hall has more guests or pairs than this bound."""

    def __init__(self, bound):
        self.bound = bound


class BadShelf(PartyError):
    """A value is not what a shelf or a porter is made of."""

    def __init__(self, value):
        self.value = value


class TooManyPairs(PartyError):
    """There would be more pairs than a shelf or a hall may have."""


class Missing(PartyError):
    """A shelf does not have as many pairs of this size as are to be taken off."""

    def __init__(self, size):
        self.size = size


class BadFoot(PartyError):
    """A value is not the size of a foot."""

    def __init__(self, value):
        self.value = value


class BadHall(PartyError):
    """A value is not a hall: error is the result of hall_error."""

    def __init__(self, error):
        self.error = error


class Busy(PartyError):
    """A watch of the party runs."""


class TooManyEdits(PartyError):
    """As many edits stand as a party may have."""


class TooManyGuests(PartyError):
    """There would be more guests than a hall may have."""


class LastGuest(PartyError):
    """The only guest stays, as a hall has at least one."""


class BadSize(PartyError):
    """A value is not the size of a pair."""

    def __init__(self, value):
        self.value = value


class NothingToUndo(PartyError):
    """No edit stands."""


class BadEdits(PartyError):
    """A value is not a batch of edits."""


class BadEdit(PartyError):
    """The item of a batch at this index is not an edit."""

    def __init__(self, index):
        self.index = index


class Rejected(PartyError):
    """The edit of a batch at this index raised an error."""

    def __init__(self, index):
        self.index = index


class BadNumber(PartyError):
    """A value is not a number from 0 to LIMIT."""

    def __init__(self, value):
        self.value = value


class TooFewServed(PartyError):
    """This number of guests is less than what was pledged."""

    def __init__(self, number):
        self.number = number


class BadText(PartyError):
    """A text is not that of a hall, because of its word at this index; None: it is no text."""

    def __init__(self, index):
        self.index = index


class NoPlace(LookupError):
    """A value is not the number of a place on a shelf."""

    def __init__(self, value):
        self.value = value


class NoGuest(LookupError):
    """A value is not the number of a guest."""

    def __init__(self, value):
        self.value = value


class NoPair(LookupError):
    """A value is not the number of a pair."""

    def __init__(self, value):
        self.value = value


class NoVersion(LookupError):
    """A value is not the number of a version."""

    def __init__(self, value):
        self.value = value
