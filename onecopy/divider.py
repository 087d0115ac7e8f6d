"""The divider keeps a table tree for ever, and the crowd attacks one that cannot be kept."""

from onecopy.dealings import deal, trim
from onecopy.tables import table_weights


def cut_of(weights):
    """The number of things before the cut of a table whose things have these weights."""
    half = len(weights) // 2
    return half + 1 if sum(weights[:half]) == 1 else half


def _division_of(tree, own, weights, table):
    """A division of the table after which neither it nor the new table is due.

    The lists have the own entries and the weights after the arrival; the table weighs one more than it has places.
    """
    below = tree.children(table)
    due = [child for child in below if weights[child] >= tree.size]
    children = due + [child for child in below if weights[child] < tree.size]
    # With the heavy things first, those before the cut and those behind it weigh at least 2, also if size is 3.
    cut = cut_of([2] * len(due) + [1] * (len(below) - len(due) + own[table]))
    return table, max(0, cut - len(below)), sorted(children[:cut])


class Divider:
    """Answers arrivals at a keepable tree, and divides a table only where that is needed."""

    def __init__(self, tree):
        # Raises ShortLot if the tree is not keepable.
        deal(tree.as_standing())
        self._tree = tree

    @property
    def tree(self):
        """The present tree."""
        return self._tree

    def take_arrival(self, table):
        """Let an entry arrive at the table. Returns the division that was made, or None."""
        tree = self._tree
        own = [entries + 1 if at == table else entries for at, entries in enumerate(tree.own())]
        weights = table_weights(tree.size, tree.parents(), own)
        too_heavy = [at for at, weight in enumerate(weights) if weight > tree.size]
        division = _division_of(tree, own, weights, too_heavy[0]) if too_heavy else None
        self._tree = tree.arrive(table, division)
        return division


class Crowd:
    """Attacks a tree with a short lot, and wins whatever is divided."""

    def __init__(self, tree, lot):
        self._go_on(tree, lot)

    def _go_on(self, tree, lot):
        """Take up the tree with the lot, which is trimmed in its standing, and choose the next table."""
        trimmed = trim(tree.as_standing(), lot)
        lowest = [table for table in trimmed if not any([child in trimmed for child in tree.children(table)])]
        self._tree = tree
        self._lot = trimmed
        self._table = lowest[0]
        # The table must be divided, and its parent, which belongs to the lot, needs a place for one card more.
        self._has_won = tree.things(tree.parents()[lowest[0]]) == tree.size

    @property
    def tree(self):
        """The present tree."""
        return self._tree

    @property
    def has_won(self):
        """Whether no division makes the arrival at the next table legal."""
        return self._has_won

    def present_lot(self):
        """A short lot of the present standing without a smaller one within it."""
        return list(self._lot)

    def next_table(self):
        """The table of the lot at which the next entry arrives."""
        return self._table

    def take_division(self, division):
        """Let an entry arrive at the next table, with this division or None."""
        self._go_on(self._tree.arrive(self._table, division), self._lot)
