"""The errors of the program. Each keeps the arguments that it was made from."""


class HoldError(ValueError):
    """A value that does not fit. Never raised itself."""


class TurnError(RuntimeError):
    """Something that is not to be done now. Never raised itself."""


class AbsentError(LookupError):
    """Something that is not there. Never raised itself."""


class SizeError(OverflowError):
    """Something that is too large. Never raised itself."""


class InvalidKey(HoldError):
    """A value that is not a key."""

    def __init__(self, value):
        self.value = value


class InvalidValue(HoldError):
    """A value that no version can have."""

    def __init__(self, value):
        self.value = value


class InvalidView(HoldError):
    """A value that is not a view."""

    def __init__(self, value):
        self.value = value


class InvalidLoss(HoldError):
    """A value that is not a number of rows that a fall can lose."""

    def __init__(self, value):
        self.value = value


class InvalidPages(HoldError):
    """A value that is not a number of pages."""

    def __init__(self, value):
        self.value = value


class InvalidRow(HoldError):
    """A row that cannot stand at its index."""

    def __init__(self, index):
        self.index = index


class InvalidText(HoldError):
    """A text that is wrong at a word of a line."""

    def __init__(self, line, word):
        self.line = line
        self.word = word


class Barred(HoldError):
    """A log that no history has."""

    def __init__(self, bar):
        self.bar = bar


class Unplayed(HoldError):
    """A row that a store does not write just so."""

    def __init__(self, index):
        self.index = index


class TooFew(HoldError):
    """A count that is less than the fewest readers."""

    def __init__(self, least):
        self.least = least


class UnknownCommand(HoldError):
    """A line that is no command."""


class NameTaken(HoldError):
    """A name that is in use."""

    def __init__(self, name):
        self.name = name


class Ended(TurnError):
    """A reader or transaction that has ended."""


class Cancelled(TurnError):
    """A reader that a far copy cancelled."""


class NotOuter(TurnError):
    """A transaction that stands within another one."""


class Strayed(TurnError):
    """A far copy that took other rows than the store has."""

    def __init__(self, index):
        self.index = index


class Busy(TurnError):
    """A transaction in which an inner one is open."""

    def __init__(self, number):
        self.number = number


class Blocked(TurnError):
    """A deed that an open transaction blocks."""

    def __init__(self, number):
        self.number = number


class Taken(TurnError):
    """A key of which a version stands."""

    def __init__(self, key):
        self.key = key


class Unsettled(TurnError):
    """A transaction that is open and not prepared."""

    def __init__(self, number):
        self.number = number


class NoKey(AbsentError):
    """A key of which no version is seen."""

    def __init__(self, key):
        self.key = key


class NoName(AbsentError):
    """A name that means nothing."""

    def __init__(self, name):
        self.name = name


class NoPage(AbsentError):
    """A value that is not a page."""

    def __init__(self, page):
        self.page = page


class NoRow(AbsentError):
    """A value that is not the index of a row."""

    def __init__(self, index):
        self.index = index


class NoSlot(AbsentError):
    """A value that is not a slot."""

    def __init__(self, slot):
        self.slot = slot


class NotDead(AbsentError):
    """A slot without a version that may be removed."""

    def __init__(self, slot):
        self.slot = slot


class NotPrepared(AbsentError):
    """A value that is not the number of a prepared transaction."""

    def __init__(self, number):
        self.number = number


class NotSpan(AbsentError):
    """A value that is not the row of a span."""

    def __init__(self, row):
        self.row = row


class NotCleaning(AbsentError):
    """A value that is not the index of a clean or tidy row."""

    def __init__(self, row):
        self.row = row


class NoNumber(AbsentError):
    """A value that is not one of the numbers."""

    def __init__(self, number):
        self.number = number


class NoTransaction(AbsentError):
    """A value that is not the number of a transaction."""

    def __init__(self, number):
        self.number = number


class Full(SizeError):
    """No slot is free."""


class TooDeep(SizeError):
    """Too many transactions within one another."""

    def __init__(self, limit):
        self.limit = limit


class TooLong(SizeError):
    """Too many rows."""

    def __init__(self, limit):
        self.limit = limit
