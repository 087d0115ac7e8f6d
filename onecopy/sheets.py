"""Sheets: what stands on a table of a store, and how the copies of a chest tell it.

The fair text of a copy is (size, separators, contents); the separators of a leaf are None. A change on a leaf is
(key, text), or (key, None) for a pair that is removed. A change on an inner table is (divided, left, right,
separator): the child "divided" was divided at the separator into the children left and right.
"""


def _pairs_after(pairs, changes):
    """The pairs of a leaf after the changes."""
    last = {key: text for key, text in [*pairs, *changes]}
    return [(key, last[key]) for key in sorted(list(last)) if last[key] is not None]


class Sheet:
    """The pairs of a leaf, or the children and separators of an inner table. A sheet never changes."""

    def __init__(self, page, separators, contents):
        self.page = page
        self.separators = separators
        self.contents = contents

    def is_leaf(self):
        """Whether the table is a leaf."""
        return self.separators is None

    def child_pages(self):
        """The children in order, none for a leaf."""
        return [] if self.is_leaf() else list(self.contents)

    def children_from(self, key):
        """The children of an inner table that may have the key or a greater one. The first one may have the key."""
        below = [separator for separator in self.separators if separator <= key]
        return self.contents[len(below):]

    def fair_text(self, size):
        """The fair text of a copy of the table in a store with tables of this size."""
        separators = None if self.is_leaf() else tuple(self.separators)
        return size, separators, tuple(self.contents)

    def changed_by(self, changes):
        """The sheet after these changes."""
        if self.is_leaf():
            return Sheet(self.page, None, _pairs_after(self.contents, changes))
        sheet = self
        for change in changes:
            sheet = sheet.with_division(change)
        return sheet

    def with_division(self, change):
        """The sheet of an inner table after the division of a child."""
        divided, left, right, separator = change
        at = self.contents.index(divided)
        return Sheet(self.page,
                     [*self.separators[:at], separator, *self.separators[at:]],
                     [*self.contents[:at], left, right, *self.contents[at + 1:]])

    def halves(self, cut, left, right):
        """The sheets of the two new tables, cut before the thing with this index, and the separator between them."""
        first = self.contents[:cut]
        second = self.contents[cut:]
        if self.is_leaf():
            return Sheet(left, None, first), Sheet(right, None, second), second[0][0]
        return (Sheet(left, self.separators[:cut - 1], first), Sheet(right, self.separators[cut:], second),
                self.separators[cut - 1])


def sheet_of(shown):
    """The sheet that a copy shows, from what Chest.look tells of it."""
    page, (_, separators, contents), changes, _ = shown
    kept = None if separators is None else list(separators)
    return Sheet(page, kept, list(contents)).changed_by([change for _, change in changes])


def size_of(shown):
    """The size of the tables of the store, from what Chest.look tells of any copy in it."""
    return shown[1][0]
