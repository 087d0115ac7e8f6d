"""The errors that Onecopy raises. Each tells by its attributes what was wrong."""


class OnecopyError(ValueError):
    """The base class of all errors that the package raises."""


class LotError(OnecopyError):
    """The base class of the errors with a lot."""

    def __init__(self, lot):
        # The text is made here, so that a later change of the caller's list does not show in it.
        super().__init__(str(list(lot)))
        self.lot = list(lot)


class ShortLot(LotError):
    """A lot is short, so there is no dealing."""


class NotShort(LotError):
    """A lot holds no short lot."""


class NoRoom(LotError):
    """A new pointer would make a lot short."""


class NoPage(OnecopyError):
    """A page is not there."""

    def __init__(self, page):
        self.page = page


class InvalidPointer(OnecopyError):
    """A pointer cannot be one of a web."""

    def __init__(self, index):
        self.index = index


class InvalidStanding(OnecopyError):
    """A number of blank lines is out of bounds, or (page None) the list has a wrong length."""

    def __init__(self, page):
        self.page = page


class NoLine(OnecopyError):
    """A page has too few blank lines."""

    def __init__(self, page):
        self.page = page


class HasRing(OnecopyError):
    """A ring stands where there may be none."""

    def __init__(self, page):
        self.page = page


class TooFewLines(OnecopyError):
    """A page has, or would have, more pointers than lines."""

    def __init__(self, page):
        self.page = page


class TooMany(OnecopyError):
    """A number is greater than allowed."""

    def __init__(self, count):
        self.count = count


class NoIndex(OnecopyError):
    """No standing has this index."""

    def __init__(self, index):
        self.index = index


class PageTaken(OnecopyError):
    """A page is there already."""

    def __init__(self, page):
        self.page = page


class StillPointed(OnecopyError):
    """A page is still an end of a pointer."""

    def __init__(self, page):
        self.page = page


class PointerTaken(OnecopyError):
    """A pointer is there already, or its ends are equal."""

    def __init__(self, holder, target):
        self.holder = holder
        self.target = target


class NoPointer(OnecopyError):
    """A pointer is not there."""

    def __init__(self, holder, target):
        self.holder = holder
        self.target = target


class Stopped(OnecopyError):
    """A disk makes no more writes."""

    def __init__(self, writes):
        self.writes = writes


class InvalidAllowance(OnecopyError):
    """An allowance is below 0."""

    def __init__(self, allowed):
        self.allowed = allowed


class NoCopy(OnecopyError):
    """No copy is stored, or no live one, at an address."""

    def __init__(self, address):
        self.address = address


class NoEntry(OnecopyError):
    """An entry leads to no copy."""

    def __init__(self, entry):
        self.entry = entry


class NoDay(OnecopyError):
    """A day is not readable."""

    def __init__(self, day):
        self.day = day


class NoPath(OnecopyError):
    """A list of pages is not a path."""

    def __init__(self, index):
        self.index = index


class Unreachable(OnecopyError):
    """A page cannot be reached from an entry."""

    def __init__(self, page):
        self.page = page


class NotKeepable(OnecopyError):
    """A chain is not keepable."""

    def __init__(self, page):
        self.page = page


class CopiesDiffer(OnecopyError):
    """Two stretches have different numbers of copies."""

    def __init__(self, left, right):
        self.left = left
        self.right = right


class NoTable(OnecopyError):
    """A table is not there."""

    def __init__(self, table):
        self.table = table


class InvalidTree(OnecopyError):
    """A table does not fit into a tree, or (table None) the lists do not."""

    def __init__(self, table):
        self.table = table


class InvalidDivision(OnecopyError):
    """A table cannot be divided so."""

    def __init__(self, table):
        self.table = table


class Overfull(OnecopyError):
    """A table has more things than places."""

    def __init__(self, table):
        self.table = table


class NoKey(OnecopyError):
    """A key is not there."""

    def __init__(self, key):
        self.key = key


class NotHeld(OnecopyError):
    """A day is not held."""

    def __init__(self, day):
        self.day = day


class NoStart(OnecopyError):
    """A log is not legal from any standing."""

    def __init__(self, index):
        self.index = index


class BadCommand(OnecopyError):
    """A line is no command."""

    def __init__(self, word):
        self.word = word


class NothingToUndo(OnecopyError):
    """There is no deed to undo."""


class NothingToRedo(OnecopyError):
    """There is no deed to make again."""
