"""The present tables of a store: what stands on them, and how much each of them weighs."""

from onecopy.divider import cut_of
from onecopy.sheets import Sheet


class PresentTables:
    """The sheets, the parents and the weights of the present tables, by their pages."""

    def __init__(self, size, sheets):
        # Each table stands before its children in the list, so the top is the first one.
        self._size = size
        self.top = sheets[0].page
        self._next_page = max([sheet.page for sheet in sheets]) + 1
        self._sheets = {}
        self._parents = {}
        self._weights = {}
        for sheet in sheets[::-1]:
            self._put_sheet(sheet)

    def _put_sheet(self, sheet):
        """Take the sheet for its table. Those of its children are there."""
        self._sheets[sheet.page] = sheet
        self._weigh(sheet.page)
        for child in sheet.child_pages():
            self._parents[child] = sheet.page

    def _weigh(self, page):
        """Work out the weight of the table."""
        self._weights[page] = sum(self._thing_weights(page))

    def _thing_weights(self, page):
        """The weights of the table's things in order: 2 for a child that is due, 1 for every other thing."""
        sheet = self._sheets[page]
        if sheet.is_leaf():
            return [1] * len(sheet.contents)
        return [2 if self._is_due(child) else 1 for child in sheet.contents]

    def _is_due(self, page):
        """Whether the weight of the table is at least the number of its places."""
        return self._weights[page] >= self._size

    def sheet_at(self, page):
        """The sheet of the table."""
        return self._sheets[page]

    def parent_of(self, page):
        """The parent of the table, None for the top."""
        return self._parents.get(page)

    def children_of(self, page):
        """The children of the table in order, none for a leaf."""
        return self._sheets[page].child_pages()

    def order(self):
        """All tables, each of them before its children, and all tables below a child before the next child."""
        found = []
        waiting = [self.top]
        while waiting:
            page = waiting.pop()
            found.append(page)
            waiting.extend(self.children_of(page)[::-1])
        return found

    def leaf_of(self, key):
        """The leaf that has the key or would have it."""
        page = self.top
        while not self._sheets[page].is_leaf():
            page = self._sheets[page].children_from(key)[0]
        return page

    def change_leaf(self, page, change):
        """Make the change on the leaf. Returns the table that weighs more than it has places then, or None."""
        was_due = self._is_due(page)
        self._put_sheet(self._sheets[page].changed_by([change]))
        at = page
        # A weight depends on what is below only in so far as it is due.
        while self._is_due(at) != was_due and self.parent_of(at) is not None:
            at = self.parent_of(at)
            was_due = self._is_due(at)
            self._weigh(at)
        return at if self._weights[at] > self._size else None

    def divide(self, page):
        """Divide the table at the cut. Returns the change on its parent: (page, left, right, separator)."""
        cut = cut_of(self._thing_weights(page))
        left = self._next_page
        right = left + 1
        first, second, separator = self._sheets[page].halves(cut, left, right)
        parent = self.parent_of(page)
        self._put_sheet(first)
        self._put_sheet(second)
        self._next_page = right + 1
        if parent is None:
            self.top = right + 1
            self._next_page = right + 2
            self._put_sheet(Sheet(self.top, [separator], [left, right]))
        else:
            self._put_sheet(self._sheets[parent].with_division((page, left, right, separator)))
            del self._parents[page]
        del self._sheets[page]
        del self._weights[page]
        return page, left, right, separator
