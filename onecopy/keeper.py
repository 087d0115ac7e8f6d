"""Keepers: ledgers of a fixed web, and how many pages they copy at most."""

from onecopy.dealings import deal
from onecopy.ledger import Ledger
from onecopy.webs import check_degrees


def _ledger_of(standing):
    """A ledger with the pages, the blank lines and the pointers of a standing that has a dealing."""
    ledger = Ledger(standing.lines)
    for page, blank in enumerate(standing.blanks()):
        ledger.enter_page(page, blank)
    for holder, target in standing.web.arrows():
        ledger.set_pointer(holder, target)
    return ledger


class Keeper:
    """A ledger of a fixed web that begins with a given standing."""

    def __init__(self, standing):
        check_degrees(standing.web, standing.lines)
        # Raises ShortLot if there is no dealing; then no pointer finds the ledger without room.
        deal(standing)
        self._standing = standing
        self._ledger = _ledger_of(standing)

    @property
    def standing(self):
        """The present standing."""
        return self._standing

    def owners(self):
        """The present dealing."""
        return [self._ledger.owner_of(holder, target) for holder, target in self._standing.web.arrows()]

    def use_line(self, page):
        """Make an update of the page. Returns the answer: () or the one copied page."""
        answer = self._ledger.use_line(page)
        self._standing = self._standing.after(page, *answer)
        return answer


class Recorder(Keeper):
    """A keeper that also records each update with its answer."""

    def __init__(self, standing):
        super().__init__(standing)
        self._rows = []

    def use_line(self, page):
        """Make an update of the page as a Keeper does, and record it."""
        answer = super().use_line(page)
        self._rows.append((page, answer))
        return answer

    def rows(self):
        """The updates so far, each as (page, answer)."""
        return list(self._rows)


def copies_bound(standing, updates):
    """The greatest number of pages that a keeper of the standing copies in so many updates."""
    web = standing.web
    check_degrees(web, standing.lines)
    greatest = max([web.degree(page) for page in range(web.pages)])
    return (updates + standing.used()) // (standing.lines + 1 - greatest)
