"""The foe: chooses updates until no legal answer exists."""

from onecopy.dealings import deal, holds_short, trim
from onecopy.errors import HasRing, TooMany
from onecopy.standings import Standing
from onecopy.webs import Web, crowded_page


def _alone(standing, lot):
    """The pages of the lot with the pointers within it, as a standing of its own. Page i of it is lot[i]."""
    index_of = {page: index for index, page in enumerate(lot)}
    pointers = [(index_of[page], index_of[target])
                for page in lot for target in standing.web.targets(page) if target in index_of]
    return Standing(Web(len(lot), pointers), standing.lines, [standing.blank_of(page) for page in lot])


def _is_beatable(standing, lot):
    """Whether the trimmed lot with the pointers within it is a forest or a one-way ring."""
    # A trimmed lot is connected, so it is one of the two exactly if it is settled.
    return _alone(standing, lot).web.is_settled()


def _leaf_of(web):
    """The least page that has only one tie, and the other page of that tie. (None, None) in a ring."""
    for page in range(web.pages):
        nearest = web.neighbours(page)
        if len(nearest) == 1:
            return page, nearest[0]
    return None, None


def _has_room_without(standing, leaf):
    """Whether the pages other than the leaf have more blank lines than pointers within."""
    others = [page for page in range(standing.web.pages) if page != leaf]
    return sum([standing.blank_of(page) for page in others]) > standing.web.inner(others)


def _choose(lot_alone):
    """The page of a lot that stands alone to update, and how many replies the lot may last: 1 or 2."""
    web = lot_alone.web
    leaf, other = _leaf_of(web)
    if leaf is None:
        return max(list(range(web.pages)), key=lambda page: lot_alone.blank_of(page)), 1
    can_lose = lot_alone.blank_of(leaf) > 0
    if (other, leaf) in web and not can_lose and not _has_room_without(lot_alone, leaf):
        return leaf, 1
    if (other, leaf) not in web:
        return other, 1
    # The two point to each other. Once the one that can lose a line has lost it, the leaf must be copied.
    return (leaf if can_lose else other), 2


def _bound_of(web, lasting):
    """The greatest number of updates until no reply is left, if this lot lasts for at most so many of them."""
    # Each reply leaves a smaller lot, except that two pointers in one tie may make a lot last for two replies.
    if any([(target, holder) in web for holder, target in web.arrows()]):
        return 2 * (web.pages - 2) + lasting
    return web.pages - 1


class Foe:
    """Attacks a standing that has a short lot, and wins whatever the replies are."""

    def __init__(self, standing, lot):
        trimmed = trim(standing, lot)
        if not _is_beatable(standing, trimmed):
            raise HasRing(trimmed[0])
        self._go_on(standing, trimmed)

    def _go_on(self, standing, lot):
        """Take up the standing with its trimmed lot, and choose the next update."""
        lot_alone = _alone(standing, lot)
        index, lasting = _choose(lot_alone)
        self._standing = standing
        self._lot = lot
        self._page = lot[index]
        self._bound = _bound_of(lot_alone.web, lasting)
        self._has_won = standing.answers(self._page) == []

    @property
    def standing(self):
        """The present standing."""
        return self._standing

    @property
    def has_won(self):
        """Whether the update of the next page has no legal answer."""
        return self._has_won

    def present_lot(self):
        """A short lot of the present standing without a smaller one within it."""
        return list(self._lot)

    def next_page(self):
        """The page to update next, one of the present lot."""
        return self._page

    def bound(self):
        """A number from 1 on that falls with each reply; when it is 1, no reply is legal."""
        return self._bound

    def take_reply(self, *copied):
        """Make the update of the next page with the copied pages."""
        count = len(set(copied))
        if count > 1:
            raise TooMany(count)
        standing = self._standing.after(self._page, *copied)
        self._go_on(standing, trim(standing, self._lot))


def verdict(standing):
    """Whether the standing is keepable, as far as it can be told: a pair of a word and what proves it."""
    every = list(range(standing.web.pages))
    if holds_short(standing, every):
        lot = trim(standing, every)
        if _is_beatable(standing, lot):
            return "lost", lot
    elif crowded_page(standing.web, standing.lines) is None:
        return "keepable", deal(standing)
    return "open", None
