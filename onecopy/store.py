"""The store: pairs of a key and a text in tables that divide, on all days."""

from onecopy.cells import Disk
from onecopy.chest import Chest
from onecopy.drafts import Draft
from onecopy.errors import NoKey, TooFewLines
from onecopy.ledger import Ledger
from onecopy.present import PresentTables
from onecopy.sheets import Sheet, size_of
from onecopy.standings import Standing
from onecopy.views import TOP_ENTRY, View
from onecopy.webs import Web


class Store:
    """Pairs whose tables are pages in a chest. Each change is a day of its own."""

    def __init__(self, size, lines):
        if lines < size + 1:
            raise TooFewLines(0)
        leaf = Sheet(0, None, [])
        self.size = size
        self._work_on(Chest.begun(Disk(), lines, [(leaf.page, leaf.fair_text(size), [], TOP_ENTRY)]))

    @classmethod
    def resumed(cls, disk):
        """The store whose cells the disk holds. Nothing is written."""
        chest = Chest(disk)
        size = size_of(chest.look(chest.entry_address(TOP_ENTRY, chest.today), chest.today))
        # It is made with a chest of its own first, which is then put aside.
        store = cls(size, chest.lines)
        store._work_on(chest)
        return store

    def _work_on(self, chest):
        """Take the chest, its present tables, and a ledger of their lines."""
        self.chest = chest
        self._tables = PresentTables(self.size, [sheet for _, sheet in View(chest, chest.today).sheets()])
        self._ledger = Ledger(chest.lines)
        order = self._tables.order()
        # The children of a table come behind it, so they are entered before it.
        for page in order[::-1]:
            self._enter(page, chest.blank_of(page))

    def _enter(self, page, blank):
        """Enter the table in the ledger, with so many blank lines, and its pointers to its children."""
        self._ledger.enter_page(page, blank)
        for child in self._tables.children_of(page):
            self._ledger.set_pointer(page, child)

    def _leave(self, page):
        """Take the table and its pointers out of the ledger."""
        for child in self._tables.children_of(page):
            self._ledger.drop_pointer(page, child)
        parent = self._tables.parent_of(page)
        if parent is not None:
            self._ledger.drop_pointer(parent, page)
        self._ledger.leave_page(page)

    @property
    def today(self):
        """The last finished day."""
        return self.chest.today

    @property
    def standing(self):
        """The standing of the present tables. Page i is the i-th table in the order of their shape."""
        order = self._tables.order()
        index_of = {page: index for index, page in enumerate(order)}
        pointers = [(index_of[page], index_of[child]) for page in order for child in self._tables.children_of(page)]
        blank = [self.chest.blank_of(page) for page in order]
        return Standing(Web(len(order), pointers), self.chest.lines, blank)

    def days(self):
        """The readable days, ascending."""
        return self.chest.days()

    def put_key(self, key, text):
        """Give the key this text on the next day. Returns the numbers of new copies and of notes."""
        return self._make_day(self._tables.leaf_of(key), (key, text))

    def drop_key(self, key):
        """Remove the key on the next day. Returns the numbers of new copies and of notes."""
        leaf = self._tables.leaf_of(key)
        if key not in dict(self._tables.sheet_at(leaf).contents):
            raise NoKey(key)
        return self._make_day(leaf, (key, None))

    def _make_day(self, leaf, change):
        """Make the change on the leaf, and divide a table if that is needed."""
        draft = Draft(self.chest)
        too_heavy = self._tables.change_leaf(leaf, change)
        if too_heavy != leaf:
            self._update(draft, leaf, change, [])
        if too_heavy is not None:
            self._divide(draft, too_heavy)
        return draft.write()

    def _update(self, draft, page, change, links):
        """Update a table, on which the change was made already: note it or copy the table, as the ledger says."""
        answer = self._ledger.use_line(page)
        if page not in answer:
            draft.new_note(page, change, links)
        for copied in answer:
            self._write_copy(draft, copied)
            parent = self._tables.parent_of(copied)
            if parent is not None:
                draft.new_note(parent, None, draft.links_to([copied]))

    def _write_copy(self, draft, page):
        """Write the table anew as it is now."""
        entry = TOP_ENTRY if page == self._tables.top else None
        text = self._tables.sheet_at(page).fair_text(self.size)
        draft.new_copy(page, text, self._tables.children_of(page), entry)

    def _divide(self, draft, page):
        """Divide the table into two new pages, and let its parent note that."""
        parent = self._tables.parent_of(page)
        self._leave(page)
        change = self._tables.divide(page)
        halves = [change[1], change[2]]
        new_pages = halves if parent is not None else [*halves, self._tables.top]
        for new_page in new_pages:
            self._enter(new_page, self.chest.lines)
            self._write_copy(draft, new_page)
        if parent is not None:
            for half in halves:
                self._ledger.set_pointer(parent, half)
            self._update(draft, parent, change, [(page, None), *draft.links_to(halves)])

    def get(self, key):
        """The text of the key on the present day."""
        return self.at(self.today)[key]

    def at(self, day):
        """The pairs on the day."""
        return View(self.chest, day)

    def changed(self, early, late):
        """The keys whose texts differ on the two days, each as (key, text on the first, text on the second)."""
        before = self.at(early)
        after = self.at(late)
        old = dict(before.pair_list())
        new = dict(after.pair_list())
        keys = sorted(set([*old, *new]))
        return [(key, old.get(key), new.get(key)) for key in keys if old.get(key) != new.get(key)]

    def history(self, key):
        """The pairs (day, text or None) of the first readable day and of each readable day with another text."""
        found = []
        for day in self.days():
            text = self.at(day).text_of(key)
            if not found or found[-1][1] != text:
                found.append((day, text))
        return found
