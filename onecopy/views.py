"""Views: the pairs of a store as they were on one day."""

from onecopy.errors import NoKey
from onecopy.sheets import sheet_of

# The only entry of a store is its top.
TOP_ENTRY = 0


class View:
    """The pairs of the store in a chest on one day."""

    def __init__(self, chest, day):
        chest.check_day(day)
        self.day = day
        self._chest = chest

    def _top(self):
        """The address of the copy of the top. Raises NoDay if the day is not readable any more."""
        return self._chest.entry_address(TOP_ENTRY, self.day)

    def _read(self, address):
        """The sheet of the copy at the address, and the addresses of its children by their pages."""
        shown = self._chest.look(address, self.day)
        return sheet_of(shown), dict(shown[3])

    def _way_to(self, key):
        """The addresses of the copies on the way to the leaf of the key, and the pairs of that leaf as a dict."""
        way = [self._top()]
        sheet, links = self._read(way[-1])
        while not sheet.is_leaf():
            way.append(links[sheet.children_from(key)[0]])
            sheet, links = self._read(way[-1])
        return way, dict(sheet.contents)

    def text_of(self, key):
        """The text of the key, or None if it is not there."""
        _, pairs = self._way_to(key)
        return pairs.get(key)

    def __getitem__(self, key):
        text = self.text_of(key)
        if text is None:
            raise NoKey(key)
        return text

    def __contains__(self, key):
        return self.text_of(key) is not None

    def __len__(self):
        return len(self.pair_list())

    def __iter__(self):
        raise TypeError("a view is not iterated over; scan yields its pairs")

    def sheets(self):
        """The sheets of all tables, each with its depth, in the order of shape."""
        found = []
        waiting = [(0, self._top())]
        while waiting:
            depth, address = waiting.pop()
            sheet, links = self._read(address)
            found.append((depth, sheet))
            waiting.extend([(depth + 1, links[child]) for child in sheet.child_pages()[::-1]])
        return found

    def pair_list(self):
        """All pairs, ascending."""
        return [pair for _, sheet in self.sheets() if sheet.is_leaf() for pair in sheet.contents]

    def shape(self):
        """The tables as triples (depth, page, things), each of them before its children."""
        return [(depth, sheet.page, list(sheet.contents if sheet.is_leaf() else sheet.separators))
                for depth, sheet in self.sheets()]

    def _pairs_from(self, low):
        """Yield the pairs whose keys are at least this number, ascending."""
        waiting = [self._top()]
        while waiting:
            sheet, links = self._read(waiting.pop())
            if sheet.is_leaf():
                for pair in sheet.contents:
                    if pair[0] >= low:
                        yield pair
            else:
                waiting.extend([links[child] for child in sheet.children_from(low)[::-1]])

    def scan(self, low, high):
        """Yield the pairs with low <= key < high, ascending."""
        for pair in self._pairs_from(low):
            if pair[0] >= high:
                return
            yield pair

    def next_key(self, key):
        """The least key greater than this number, or None."""
        low = key + 1
        for pair in self._pairs_from(low):
            return pair[0]
        return None

    def trail(self, key):
        """The addresses of the copies on the way from the top to the leaf of the key."""
        way, _ = self._way_to(key)
        return way
