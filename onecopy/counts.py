"""How many standings of a forest have a dealing, and which place each of them has among them."""

from onecopy.errors import NoIndex
from onecopy.forests import children_first, tie_sizes, tree_parents
from onecopy.standings import Standing


def _times(left, right):
    """The ways to make each sum of two numbers, from the ways to make each first and each second number."""
    found = [0] * (len(left) + len(right) - 1)
    for first, ways in enumerate(left):
        for second, more in enumerate(right):
            found[first + second] += ways * more
    return found


def _without(product, right):
    """The list that gives the product when the right one is taken times it. Not all of the right one is 0."""
    low = 0
    while right[low] == 0:
        low += 1
    rest = list(product)
    found = []
    for number in range(len(product) - len(right) + 1):
        ways = rest[number + low] // right[low]
        found.append(ways)
        for second, more in enumerate(right):
            rest[number + second] -= ways * more
    return found


def _spread(sums, size, low, high):
    """The ways to have each debt from 0 to the size of the tie, with low to high blank lines.

    sums has for each number the ways in which the debts of the children make it together.
    """
    found = [0] * (size + 1)
    for owed, ways in enumerate(sums):
        found[0] += ways * max(0, high + 1 - max(low, size + owed))
        for debt in range(1, size + 1):
            if low <= size + owed - debt <= high:
                found[debt] += ways
    return found


class Tally:
    """Counts the standings of a forest that have a dealing, while the pages are fixed one by one."""

    def __init__(self, web, lines):
        self._lines = lines
        self._parents = tree_parents(web)
        self._sizes = tie_sizes(web, self._parents)
        self._low = [0] * web.pages
        self._high = [lines] * web.pages
        # For each page the ways to make each sum of the children's debts, and each debt of its own.
        self._sums = [[1]] * web.pages
        self._spreads = [[1]] * web.pages
        for page in children_first(self._parents):
            self._spreads[page] = self._spread_of(page, self._sums[page])
            parent = self._parents[page]
            if parent is not None:
                self._sums[parent] = _times(self._sums[parent], self._spreads[page])

    def _spread_of(self, page, sums):
        """The ways to have each debt of the page, from the sums of the children's debts."""
        return _spread(sums, self._sizes[page], self._low[page], self._high[page])

    def total(self):
        """How many standings with the fixed numbers have a dealing."""
        found = 1
        for page, parent in enumerate(self._parents):
            if parent is None:
                found = found * self._spreads[page][0]
        return found

    def counts(self, page):
        """For each number of blank lines of the page, how many such standings have a dealing.

        The page is not fixed yet, and the total is not 0.
        """
        size = self._sizes[page]
        ways = [self._ways_beside(page, debt) for debt in range(size + 1)]
        found = []
        for number in range(self._lines + 1):
            spread = _spread(self._sums[page], size, number, number)
            found.append(sum([spread[debt] * ways[debt] for debt in range(size + 1)]))
        return found

    def _ways_beside(self, page, debt):
        """The ways to choose the other pages that are not below this one, if it has this debt."""
        spread = [0] * debt + [1]
        parent = self._parents[page]
        while parent is not None:
            sums = _times(_without(self._sums[parent], self._spreads[page]), spread)
            page = parent
            spread = self._spread_of(page, sums)
            parent = self._parents[page]
        return spread[0] * (self.total() // self._spreads[page][0])

    def fix(self, page, number):
        """Give the page this number of blank lines. The total is not 0."""
        self._low[page] = number
        self._high[page] = number
        spread = self._spread_of(page, self._sums[page])
        parent = self._parents[page]
        while parent is not None:
            self._sums[parent] = _times(_without(self._sums[parent], self._spreads[page]), spread)
            self._spreads[page] = spread
            page = parent
            spread = self._spread_of(page, self._sums[page])
            parent = self._parents[page]
        self._spreads[page] = spread


def count_dealable(web, lines):
    """How many standings of the forest have a dealing."""
    return Tally(web, lines).total()


def rank_of(standing):
    """How many standings that have a dealing come before this one."""
    tally = Tally(standing.web, standing.lines)
    rank = 0
    for page, number in enumerate(standing.blanks()):
        if tally.total() == 0:
            return rank
        rank += sum(tally.counts(page)[:number])
        tally.fix(page, number)
    return rank


def nth_dealable(web, lines, index):
    """The standing that has a dealing and before which so many of them come."""
    tally = Tally(web, lines)
    if not 0 <= index < tally.total():
        raise NoIndex(index)
    blank = []
    left = index
    for page in range(web.pages):
        counts = tally.counts(page)
        number = 0
        while left >= counts[number]:
            left -= counts[number]
            number += 1
        tally.fix(page, number)
        blank.append(number)
    return Standing(web, lines, blank)
