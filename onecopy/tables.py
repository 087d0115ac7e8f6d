"""Table trees: tables with so many places, on which entries arrive and which are divided."""

from onecopy.errors import InvalidDivision, InvalidTree, NoTable, Overfull
from onecopy.forests import children_first, children_lists
from onecopy.standings import Standing
from onecopy.webs import Web


def table_weights(size, parents, own):
    """For each table its weight: the number of its things and of its children that are due."""
    weights = list(own)
    for table in children_first(parents):
        parent = parents[table]
        if parent is not None:
            weights[parent] += 2 if weights[table] >= size else 1
    return weights


def _below_top(children, top):
    """The tables from which the top is reached, as the keys of a dict."""
    reached = {}
    waiting = [top]
    while waiting:
        table = waiting.pop()
        reached[table] = True
        waiting.extend(children[table])
    return reached


def _check_tables(size, parents, own):
    """Raise InvalidTree for the least table that does not fit into the tree."""
    tables = len(parents)
    # From a table whose parent is not a table the top is not reached, so it needs no look of its own.
    children = children_lists([
        parent if parent is not None and 0 <= parent < tables else None for parent in parents])
    reached = _below_top(children, parents.index(None))
    for table, entries in enumerate(own):
        if table not in reached or entries + len(children[table]) > size:
            raise InvalidTree(table)


def _check_places(size, parents, own):
    """Raise Overfull for the least table that has more things than places."""
    for table, below in enumerate(children_lists(parents)):
        if own[table] + len(below) > size:
            raise Overfull(table)


def _after_division(parents, own, division):
    """The lists of the parents and of the own entries after the division."""
    divided, entries, children = division
    new = len(parents)
    after = [new if table in children else parent for table, parent in enumerate(parents)]
    left = [number - entries if table == divided else number for table, number in enumerate(own)]
    if parents[divided] is not None:
        return [*after, parents[divided]], [*left, entries]
    # The divided top and the new table are the children of a further table.
    after[divided] = new + 1
    return [*after, new + 1, None], [*left, entries, 0]


class TableTree:
    """Tables with own entries and children. A table tree never changes."""

    def __init__(self, size, parents, own):
        if len(parents) != len(own) or parents.count(None) != 1:
            raise InvalidTree(None)
        _check_tables(size, parents, own)
        self.size = size
        self._parents = list(parents)
        self._own = list(own)
        self._children = children_lists(parents)
        self._weights = table_weights(size, parents, own)

    def __eq__(self, other):
        return (isinstance(other, TableTree) and self.size == other.size
                and self._parents == other._parents and self._own == other._own)

    def _check_table(self, table):
        """Raise NoTable if the table is not there."""
        if not 0 <= table < len(self._own):
            raise NoTable(table)

    def parents(self):
        """For each table its parent, None for the top."""
        return list(self._parents)

    def own(self):
        """For each table the number of its own entries."""
        return list(self._own)

    def weights(self):
        """For each table its weight."""
        return list(self._weights)

    def children(self, table):
        """The children of the table, ascending."""
        self._check_table(table)
        return list(self._children[table])

    def things(self, table):
        """The number of the table's own entries and children."""
        self._check_table(table)
        return self._own[table] + len(self._children[table])

    def weight(self, table):
        """The number of the table's things and of its children that are due."""
        self._check_table(table)
        return self._weights[table]

    def is_due(self, table):
        """Whether the weight of the table is at least the number of its places."""
        return self.weight(table) >= self.size

    def is_keepable(self):
        """Whether every row of arrivals can be answered by divisions."""
        return max(self._weights) <= self.size

    def as_standing(self):
        """The standing that has a dealing exactly if the tree is keepable. Page i is table i."""
        web = Web.of_parents(self._parents)
        return Standing(web, self.size, [self.size - self.things(table) for table in range(web.pages)])

    def arrive(self, table, division=None):
        """The tree after an entry has arrived at the table and this division, if any, was made."""
        self._check_table(table)
        parents = self.parents()
        own = self.own()
        own[table] += 1
        if division is not None:
            self._check_division(own, division)
            parents, own = _after_division(parents, own, division)
        _check_places(self.size, parents, own)
        return TableTree(self.size, parents, own)

    def _check_division(self, own, division):
        """Raise InvalidDivision if a table cannot be divided so. The list has the own entries after the arrival."""
        divided, entries, children = division
        if not 0 <= divided < len(own) or not 0 <= entries <= own[divided]:
            raise InvalidDivision(divided)
        there = self._children[divided]
        if any([child not in there for child in children]) or len(set(children)) != len(children):
            raise InvalidDivision(divided)
        moved = entries + len(children)
        if moved == 0 or moved == own[divided] + len(there):
            raise InvalidDivision(divided)
