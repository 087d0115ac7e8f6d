"""Engines: a fixed web of pages whose texts change, in a chest that shows every day."""

from onecopy.cells import Disk
from onecopy.chest import FIRST_ADDRESS, Chest
from onecopy.errors import NoPath, Unreachable
from onecopy.keeper import Keeper
from onecopy.standings import Standing
from onecopy.webs import Web, check_degrees, check_pages


def _ways_to_pages(web, entries):
    """For each page that can be reached from the entries the page before it on a shortest path, None for an entry.

    A page stands behind the page before it.
    """
    before = {page: None for page in entries}
    order = list(entries)
    at = 0
    while at < len(order):
        page = order[at]
        targets = [target for target in web.targets(page) if target not in before]
        for target in targets:
            before[target] = page
        order.extend(targets)
        at += 1
    return before


def _first_copies(web, lines, texts, entries):
    """The new copies of day 0, in the order of the pages."""
    addresses = [FIRST_ADDRESS + page * (lines + 1) for page in range(web.pages)]
    return [
        (page, texts[page], [(target, addresses[target]) for target in web.targets(page)],
         page if page in entries else None)
        for page in range(web.pages)]


def _web_in(chest):
    """The web whose pages the chest stores."""
    pages = sorted({page for _, page, _ in chest.stored()})
    pointers = [(page, target) for page in pages for target, _ in chest.look(chest.live(page), chest.today)[3]]
    return Web(len(pages), pointers)


def _text_of(shown):
    """The text that a copy shows: its last change, or else its fair text."""
    _, text, changes, _ = shown
    return changes[-1][1] if changes else text


def _link_to(page, shown):
    """The address of the copy of the page to which a copy links that shows this."""
    return dict(shown[3])[page]


class Engine:
    """The texts of the pages of a fixed web on all days."""

    def __init__(self, web, lines, texts, entries):
        check_degrees(web, lines)
        check_pages(web, entries)
        self.web = web
        self._entries = sorted(set(entries))
        self._before = _ways_to_pages(web, self._entries)
        for page in range(web.pages):
            if page not in self._before:
                raise Unreachable(page)
        self._work_on(Chest.begun(Disk(), lines, _first_copies(web, lines, texts, self._entries)))

    @classmethod
    def resumed(cls, disk):
        """The engine whose cells the disk holds. Nothing is written."""
        chest = Chest(disk)
        web = _web_in(chest)
        # It is made with a chest of its own first, which is then put aside.
        engine = cls(web, chest.lines, [""] * web.pages, chest.entry_list())
        engine._work_on(chest)
        return engine

    def _work_on(self, chest):
        """Take the chest, and a keeper of the standing that it holds."""
        self.chest = chest
        blank = [chest.blank_of(page) for page in range(self.web.pages)]
        self._keeper = Keeper(Standing(self.web, chest.lines, blank))

    @property
    def today(self):
        """The last finished day."""
        return self.chest.today

    @property
    def standing(self):
        """The present standing."""
        return self._keeper.standing

    def days(self):
        """The readable days, ascending."""
        return self.chest.days()

    def entries(self):
        """The entry pages, ascending."""
        return list(self._entries)

    def write_page(self, page, text):
        """Give the page a new text on the next day. Returns the answer: () or the one copied page."""
        answer = self._keeper.use_line(page)
        chest = self.chest
        fresh = [self._new_copy(copied, page, text) for copied in answer]
        notes = [(chest.live(holder), None, [(copied, chest.next_address())])
                 for copied in answer for holder in self.web.holders(copied)]
        if page not in answer:
            notes.append((chest.live(page), text, []))
        chest.commit_day(fresh, notes)
        return answer

    def _new_copy(self, copied, page, text):
        """The new copy of a page on the day on which a page gets this text."""
        shown = self.chest.look(self.chest.live(copied), self.chest.today)
        fair = text if copied == page else _text_of(shown)
        entry = copied if copied in self._entries else None
        return copied, fair, shown[3], entry

    def read(self, page, day):
        """The text of the page on the day."""
        check_pages(self.web, [page])
        way = [page]
        while self._before[way[-1]] is not None:
            way.append(self._before[way[-1]])
        return self.follow(way[::-1], day)[-1]

    def follow(self, path, day):
        """The texts that are read along the path on the day."""
        return [_text_of(shown) for _, shown in self._copies_along(path, day)]

    def trail(self, path, day):
        """The addresses of the copies that are read along the path on the day."""
        return [address for address, _ in self._copies_along(path, day)]

    def _check_path(self, path):
        """Raise NoPath with the least index at which the list is not a path."""
        if not path or path[0] not in self._entries:
            raise NoPath(0)
        for index in range(1, len(path)):
            if (path[index - 1], path[index]) not in self.web:
                raise NoPath(index)

    def _copies_along(self, path, day):
        """The copies along the path on the day, each as its address and what it shows."""
        self.chest.check_day(day)
        self._check_path(path)
        address = self.chest.entry_address(path[0], day)
        found = []
        for page in path[1:]:
            shown = self.chest.look(address, day)
            found.append((address, shown))
            address = _link_to(page, shown)
        return [*found, (address, self.chest.look(address, day))]

    def _texts_on(self, day):
        """The texts of all pages on the day, each read along a shortest path. Raises NoDay."""
        shown = {}
        for page, before in self._before.items():
            if before is None:
                address = self.chest.entry_address(page, day)
            else:
                address = _link_to(page, shown[before])
            shown[page] = self.chest.look(address, day)
        return [_text_of(shown[page]) for page in range(self.web.pages)]

    def history(self, page):
        """The pairs (day, text) of the first readable day and of each readable day with another text."""
        check_pages(self.web, [page])
        found = []
        for day in self.days():
            text = self.read(page, day)
            if not found or found[-1][1] != text:
                found.append((day, text))
        return found

    def changed(self, early, late):
        """The pages whose texts differ on the two days, each as (page, text on the first, text on the second)."""
        before = self._texts_on(early)
        after = self._texts_on(late)
        return [(page, before[page], after[page]) for page in range(self.web.pages) if before[page] != after[page]]

    def copy_days(self, page):
        """The days on which the stored copies of the page were written, ascending."""
        check_pages(self.web, [page])
        return [day for _, stored_page, day in self.chest.stored() if stored_page == page]

    def fork(self, day):
        """A new engine that begins with the texts of the day."""
        return Engine(self.web, self.chest.lines, self._texts_on(day), self._entries)
