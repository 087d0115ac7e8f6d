"""The ledger: a web that may change, its blank lines, and a dealing that survives every update."""

from onecopy.errors import InvalidStanding, NoPage, NoPointer, NoRoom, PageTaken, PointerTaken
from onecopy.errors import StillPointed, TooFewLines
from onecopy.owners import Owners
from onecopy.standings import Standing
from onecopy.webs import Web


class Ledger:
    """Pages with the same number of lines, pointers among them, and an owner for each pointer.

    The degree of a page is never greater than the number of lines.
    """

    def __init__(self, lines):
        self.lines = lines
        self._owners = Owners()
        # For each page the pages that point to it, and those that it points to.
        self._holders = {}
        self._targets = {}

    def _check_page(self, page):
        """Raise NoPage if the page is not there."""
        if not self._owners.has_page(page):
            raise NoPage(page)

    def _check_pointer(self, holder, target):
        """Raise NoPointer if the pointer is not there."""
        if not self._owners.has_pointer((holder, target)):
            raise NoPointer(holder, target)

    def _degree(self, page):
        """The number of pointers of which the page is an end."""
        return len(self._holders[page]) + len(self._targets[page])

    def enter_page(self, page, blank=None):
        """Add a page without pointers; all its lines are blank unless a number is given."""
        if self._owners.has_page(page):
            raise PageTaken(page)
        number = self.lines if blank is None else blank
        if not 0 <= number <= self.lines:
            raise InvalidStanding(page)
        self._owners.enter(page, number)
        self._holders[page] = {}
        self._targets[page] = {}

    def leave_page(self, page):
        """Remove a page that no pointer has as an end."""
        self._check_page(page)
        if self._degree(page) > 0:
            raise StillPointed(page)
        self._owners.leave(page)
        del self._holders[page]
        del self._targets[page]

    def set_pointer(self, holder, target):
        """Add a pointer, if the standing with it has a dealing. No line is used."""
        for page in [holder, target]:
            self._check_page(page)
        if holder == target or self._owners.has_pointer((holder, target)):
            raise PointerTaken(holder, target)
        for page in [holder, target]:
            if self._degree(page) >= self.lines:
                raise TooFewLines(page)
        lot = self._owners.add_pointer((holder, target))
        if lot is not None:
            raise NoRoom(lot)
        self._holders[target][holder] = True
        self._targets[holder][target] = True

    def drop_pointer(self, holder, target):
        """Remove a pointer; the line that it owned has no owner any more."""
        self._check_pointer(holder, target)
        self._owners.drop_pointer((holder, target))
        del self._holders[target][holder]
        del self._targets[holder][target]

    def use_line(self, page):
        """Make an update of the page. Returns the answer: () or the one copied page."""
        self._check_page(page)
        if self._owners.free_of(page) > 0 or self._owners.free_one(page) is None:
            self._owners.use_line(page)
            return ()
        return (self._copy_for(page),)

    def _copy_for(self, page):
        """Make an update of a page for which no line can be made free. Returns the copied page."""
        self._owners.use_line(page)
        # Each step turns a pointer from its target to its holder and never back, so the walk ends.
        # No chain led to a free line, so the holder that takes a pointer over is short by one then.
        short = page
        holder = self._holder_to_charge(short)
        while holder is not None:
            self._owners.hand_over((holder, short))
            short = holder
            holder = self._holder_to_charge(short)
        self._owners.copy_page(short, self.lines, list(self._holders[short]))
        return short

    def _holder_to_charge(self, page):
        """A holder of the page whose pointer the page owns itself, or None."""
        for holder in self._holders[page]:
            if self._owners.owner_of((holder, page)) == page:
                return holder
        return None

    def blank_of(self, page):
        """The number of blank lines of the page."""
        self._check_page(page)
        return self._owners.blank_of(page)

    def owner_of(self, holder, target):
        """The end of the pointer that owns it."""
        self._check_pointer(holder, target)
        return self._owners.owner_of((holder, target))

    def page_list(self):
        """The pages, ascending."""
        return self._owners.page_list()

    def arrows(self):
        """The pointers, ascending."""
        return self._owners.arrows()

    def as_standing(self):
        """The standing whose page i is the page with the index i in the list of the pages."""
        pages = self._owners.page_list()
        index_of = {page: index for index, page in enumerate(pages)}
        pointers = [(index_of[holder], index_of[target]) for holder, target in self._owners.arrows()]
        return Standing(Web(len(pages), pointers), self.lines, [self._owners.blank_of(page) for page in pages])
