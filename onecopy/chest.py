"""Chests: copies of pages on a disk, with their lines and the days of both.

What the cells hold:
- cell 0: (lines, last finished day);
- cell 1: (days, day of the last sweep): these days and all days from that of the sweep on are readable, or
  all days if there was no sweep (None);
- a record: (page, day, text, links, entry, notes). The last record of a day has all notes of the day, as
  the tuples (index of the line, change, links), so that a stopped day can be completed. Others have None;
- a line: (day, change, links).
"""

from onecopy.errors import NoCopy, NoDay, NoEntry, NoLine, NoPage

FIRST_ADDRESS = 2


def record_places(disk, lines):
    """The indexes of the cells of the disk that have room for a record."""
    return list(range(FIRST_ADDRESS, len(disk), lines + 1))


def _kept_links(links):
    """The links as they are kept in a cell."""
    return tuple([(target, address) for target, address in links])


def _shown_links(links):
    """The links that hold when all of these are read in order: the last one of each target, if it ends nothing."""
    last = {target: address for target, address in links}
    return [(target, last[target]) for target in sorted(list(last)) if last[target] is not None]


def _contents_of(day, fresh, notes):
    """The contents of the records of the new copies of a day with these notes."""
    last = len(fresh) - 1
    return [(page, day, text, _kept_links(links), entry, notes if at == last else None)
            for at, (page, text, links, entry) in enumerate(fresh)]


def _last_until(rows, day):
    """The last of the rows (day, address), whose days are ascending, with a day of at most the given one, or None."""
    low = 0
    high = len(rows)
    while low < high:
        middle = (low + high) // 2
        if rows[middle][0] <= day:
            low = middle + 1
        else:
            high = middle
    return rows[low - 1] if low > 0 else None


class Chest:
    """The copies of pages on a disk whose last day is finished."""

    def __init__(self, disk):
        self.disk = disk
        self.lines, self._today = disk.read_cell(0)
        self._take_in_all()

    @classmethod
    def begun(cls, disk, lines, fresh):
        """Write day 0 with the new copies on an empty disk. Returns the chest."""
        address = FIRST_ADDRESS
        for content in _contents_of(0, fresh, ()):
            disk.write_cell(address, content)
            address += lines + 1
        disk.write_cell(1, ((), None))
        disk.write_cell(0, (lines, 0))
        return cls(disk)

    def _take_in_all(self):
        """Take all stored copies into the tables of this object."""
        # For each stored copy its page and its day, for each page its live copy, and for each entry
        # number the days and addresses of its copies, all in the order of the addresses.
        self._copies = {}
        self._live = {}
        self._entered = {}
        for address in record_places(self.disk, self.lines):
            if self.disk.read_cell(address) is not None:
                self._take_in(address)

    def _take_in(self, address):
        """Take the copy at the address, the last one so far, into the tables of this object."""
        page, day, _, _, entry, _ = self.disk.read_cell(address)
        self._copies[address] = (page, day)
        self._live[page] = address
        if entry is not None:
            self._entered.setdefault(entry, []).append((day, address))

    @property
    def today(self):
        """The last finished day."""
        return self._today

    def _readable(self):
        """The readable days before the last sweep, and the day from which on all days are readable."""
        kept, swept = self.disk.read_cell(1)
        return kept, 0 if swept is None else swept

    def days(self):
        """The readable days, ascending."""
        kept, first = self._readable()
        return list(kept) + list(range(first, self._today + 1))

    def is_readable(self, day):
        """Whether the day is readable."""
        kept, first = self._readable()
        return first <= day <= self._today or day in kept

    def check_day(self, day):
        """Raise NoDay if the day is not readable."""
        if not self.is_readable(day):
            raise NoDay(day)

    def commit_day(self, fresh, notes):
        """Make the next day with these new copies and notes. Returns the addresses of the new copies."""
        day = self._today + 1
        start = self.next_address()
        added = [start + at * (self.lines + 1) for at in range(len(fresh))]
        placed = self._placed_notes(added, fresh, notes)
        contents = _contents_of(day, fresh, tuple(placed))
        for address, content in zip(added, contents):
            self.disk.write_cell(address, content)
        for index, change, links in placed:
            self.disk.write_cell(index, (day, change, links))
        self.disk.write_cell(0, (self.lines, day))
        self._today = day
        for address in added:
            self._take_in(address)
        return added

    def _placed_notes(self, added, fresh, notes):
        """The notes of the next day, each with the index of its line in place of the address of its copy."""
        page_of = {address: row[0] for address, row in zip(added, fresh)}
        for address, _, _ in notes:
            if address not in page_of and not self._is_live(address):
                raise NoCopy(address)
        used = {}
        placed = []
        for address, change, links in notes:
            if address not in used:
                used[address] = len(self._lines_of(address))
            used[address] += 1
            if used[address] > self.lines:
                raise NoLine(page_of[address] if address in page_of else self._copies[address][0])
            placed.append((address + used[address], change, _kept_links(links)))
        return placed

    def _is_live(self, address):
        """Whether the address is that of a live copy."""
        return address in self._copies and self._live[self._copies[address][0]] == address

    def _lines_of(self, address):
        """The lines of the copy that are not blank, in order."""
        found = []
        for index in range(address + 1, address + self.lines + 1):
            line = self.disk.read_cell(index)
            if line is None:
                return found
            found.append(line)
        return found

    def next_address(self):
        """The address of the next new copy. No address is used twice."""
        # A place that was written once stays within the length of the disk, even if it is cleared again.
        size = self.lines + 1
        places = (len(self.disk) - FIRST_ADDRESS + self.lines) // size
        return FIRST_ADDRESS + places * size

    def live(self, page):
        """The address of the live copy of the page."""
        if page not in self._live:
            raise NoPage(page)
        return self._live[page]

    def blank_of(self, page):
        """The number of blank lines of the live copy of the page."""
        return self.lines - len(self._lines_of(self.live(page)))

    def entry_list(self):
        """The entry numbers of all stored copies, ascending."""
        return sorted(list(self._entered))

    def _entry_on(self, number, day):
        """The address to which the entry leads on the day, or None."""
        row = _last_until(self._entered.get(number, []), day)
        return None if row is None else row[1]

    def entry_address(self, number, day):
        """The address to which the entry leads on the readable day."""
        self.check_day(day)
        address = self._entry_on(number, day)
        if address is None:
            raise NoEntry(number)
        return address

    def look(self, address, day):
        """What the copy shows on the day: (page, text, changes, links)."""
        if address not in self._copies:
            raise NoCopy(address)
        page, _, text, links, _, _ = self.disk.read_cell(address)
        lines = [line for line in self._lines_of(address) if line[0] <= day]
        changes = [(written, change) for written, change, _ in lines if change is not None]
        noted = [pair for line in lines for pair in line[2]]
        return page, text, changes, _shown_links([*links, *noted])

    def stored(self):
        """The stored copies, each as (address, page, day), by ascending address."""
        return [(address, page, day) for address, (page, day) in self._copies.items()]

    def reached(self, day):
        """The addresses of all copies that can be reached on the readable day from its entries, ascending."""
        self.check_day(day)
        found = {}
        waiting = [self._entry_on(number, day) for number in self._entered]
        while waiting:
            address = waiting.pop()
            if address in self._copies and address not in found:
                found[address] = True
                links = self.look(address, day)[3]
                waiting.extend([linked for _, linked in links])
        return sorted(list(found))

    def sweep_to(self, days):
        """Leave only these days, each of them readable, and the present one readable.

        Copies that none of them reaches are removed. Returns the number of the removed copies.
        """
        kept = sorted({day for day in days if day != self._today})
        self.disk.write_cell(1, (tuple(kept), self._today))
        return self.remove_unreached()

    def remove_unreached(self):
        """Remove what the last sweep has not removed yet. Returns the number of the removed copies."""
        removed = self._unreached()
        for address in removed:
            # The record comes last: as long as it is there, a stopped sweep can be completed.
            for index in range(address + self.lines, address - 1, -1):
                if self.disk.read_cell(index) is not None:
                    self.disk.write_cell(index, None)
        self._take_in_all()
        return len(removed)

    def _unreached(self):
        """The copies that were there on the day of the last sweep and that no readable day reaches."""
        _, swept = self.disk.read_cell(1)
        left = {address: True for address, (_, day) in self._copies.items() if swept is not None and day <= swept}
        for day in self.days():
            # Behind the day of a finished sweep nothing is left, and the later days need not be read.
            if left:
                for address in self.reached(day):
                    left.pop(address, None)
        return sorted(list(left))
