"""Dealings and short lots: whether each pointer can have a blank line of its own."""

from onecopy.errors import NotShort, ShortLot
from onecopy.owners import Owners
from onecopy.webs import check_pages, lot_of


def is_dealing(standing, owners):
    """Whether the list of owners is a dealing of the standing."""
    arrows = standing.web.arrows()
    if len(owners) != len(arrows):
        return False
    left = standing.blanks()
    for pointer, owner in zip(arrows, owners):
        if owner not in pointer or left[owner] == 0:
            return False
        left[owner] -= 1
    return True


def _entered(standing, pages):
    """Owners with these pages and without pointers."""
    owners = Owners()
    for page in pages:
        owners.enter(page, standing.blank_of(page))
    return owners


def _dealt(standing):
    """Owners that are a dealing of the standing. Raises ShortLot if there is none."""
    owners = _entered(standing, list(range(standing.web.pages)))
    for pointer in standing.web.arrows():
        lot = owners.add_pointer(pointer)
        if lot is not None:
            raise ShortLot(lot)
    return owners


def _owner_list(standing, owners):
    """The owners as a dealing is written."""
    return [owners.owner_of(pointer) for pointer in standing.web.arrows()]


def deal(standing):
    """A dealing of the standing. Raises ShortLot if there is none."""
    return _owner_list(standing, _dealt(standing))


def slack(standing, page):
    """The greatest number of free lines of the page, a dealing that leaves them, and a lot that allows no more."""
    check_pages(standing.web, [page])
    owners = _dealt(standing)
    lot = owners.free_one(page)
    while lot is None:
        lot = owners.free_one(page)
    return owners.free_of(page), _owner_list(standing, owners), lot


class Trimming:
    """A lot whose pages are left out one by one.

    The pointers within it are added to owners until one finds no line. The owners are kept from
    one question to the next, so that most of the pointers are not added again.
    """

    def __init__(self, standing, pages):
        self._web = standing.web
        self._owners = _entered(standing, pages)
        self._inside = {page: True for page in pages}
        self._pending = [pointer for page in pages for pointer in self._pointers_from(page)]

    def page_list(self):
        """The pages that are left, ascending."""
        return sorted(list(self._inside))

    def _pointers_from(self, page):
        """The pointers from the page to pages of the lot."""
        return [(page, target) for target in self._web.targets(page) if target in self._inside]

    def _pointers_of(self, page):
        """The pointers between the page and pages of the lot."""
        return self._pointers_from(page) + [
            (holder, page) for holder in self._web.holders(page) if holder in self._inside]

    def short_lot(self):
        """A short lot within the pages that are left, or None."""
        while self._pending:
            pointer = self._pending.pop()
            if pointer[0] in self._inside and pointer[1] in self._inside:
                lot = self._owners.add_pointer(pointer)
                if lot is not None:
                    self._pending.append(pointer)
                    return lot
        return None

    def leave_out(self, page):
        """Leave out the page with its pointers."""
        for pointer in self._pointers_of(page):
            if self._owners.has_pointer(pointer):
                self._owners.drop_pointer(pointer)
        del self._inside[page]

    def take_back(self, page):
        """Take back the page that was left out last, when short_lot has found nothing without it."""
        # No pointer is pending then, so none of these is added twice.
        self._inside[page] = True
        self._pending.extend(self._pointers_of(page))


def holds_short(standing, lot):
    """Whether some subset of the lot is short."""
    return Trimming(standing, lot_of(standing.web, lot)).short_lot() is not None


def trim(standing, lot):
    """The short lot that is left when each page that is not needed for one is left out, in ascending order."""
    pages = lot_of(standing.web, lot)
    trimming = Trimming(standing, pages)
    short = trimming.short_lot()
    if short is None:
        raise NotShort(pages)
    for page in pages:
        trimming.leave_out(page)
        # A page outside the short lot that is known is not needed: no search is made for it.
        if page in short:
            found = trimming.short_lot()
            if found is None:
                trimming.take_back(page)
            else:
                short = found
    return trimming.page_list()
