"""Who owns which pointer, and chains of owner changes."""


class Owners:
    """Pages with blank lines, and pointers that own one line each at one of their ends.

    A line that no pointer owns is free. A pointer is changed from one owner to the other along
    chains: each page of a chain hands a pointer on to the next page, up to one with a free line.
    """

    def __init__(self):
        self._free = {}
        # For each page the pointers that it owns, each with its other end.
        self._owned = {}
        self._owner = {}

    def enter(self, page, blank):
        """Take in a page with so many blank lines, all free."""
        self._free[page] = blank
        self._owned[page] = {}

    def leave(self, page):
        """Forget a page that owns no pointer."""
        del self._free[page]
        del self._owned[page]

    def has_page(self, page):
        """Whether the page was taken in."""
        return page in self._free

    def page_list(self):
        """The pages, ascending."""
        return sorted(list(self._free))

    def arrows(self):
        """The pointers, ascending."""
        return sorted(list(self._owner))

    def has_pointer(self, pointer):
        """Whether the pointer is there."""
        return pointer in self._owner

    def owner_of(self, pointer):
        """The page that owns the pointer."""
        return self._owner[pointer]

    def free_of(self, page):
        """The number of the page's blank lines that no pointer owns."""
        return self._free[page]

    def blank_of(self, page):
        """The number of the page's blank lines."""
        return self._free[page] + len(self._owned[page])

    def add_pointer(self, pointer):
        """Give the new pointer a line. Returns None, or the lot if no change of owners makes one free.

        The lot has both ends of the pointer, and as many blank lines as other pointers within it.
        """
        holder, target = pointer
        start = holder if self._free[holder] >= self._free[target] else target
        if self._free[start] <= 0:
            last, came_by = self._find_chain([holder, target])
            if last is None:
                return sorted(list(came_by))
            start = self._shift(came_by, last)
        self._free[start] -= 1
        self._owned[start][pointer] = target if start == holder else holder
        self._owner[pointer] = start
        return None

    def drop_pointer(self, pointer):
        """Forget the pointer; its line has no owner any more."""
        owner = self._owner.pop(pointer)
        del self._owned[owner][pointer]
        self._free[owner] += 1

    def free_one(self, page):
        """Give the page one free line more. Returns None, or the lot if no change of owners does it.

        The lot contains the page, and no other page of it has a free line; all pointers that its
        pages own are within it.
        """
        last, came_by = self._find_chain([page])
        if last is None:
            return sorted(list(came_by))
        self._shift(came_by, last)
        return None

    def use_line(self, page):
        """Take one free line off the page. Without a free line the page is short by one until it hands one on."""
        self._free[page] -= 1

    def hand_over(self, pointer):
        """Make the other end of the pointer its owner."""
        before = self._owner[pointer]
        after = self._owned[before].pop(pointer)
        self._owned[after][pointer] = before
        self._owner[pointer] = after
        self._free[before] += 1
        self._free[after] -= 1

    def copy_page(self, page, lines, holders):
        """Write the page anew with so many lines. All its holders own their pointers to it.

        Each of them uses the line of its pointer, and the page owns the pointers from now on.
        """
        for holder in holders:
            pointer = (holder, page)
            del self._owned[holder][pointer]
            self._owned[page][pointer] = holder
            self._owner[pointer] = page
        self._free[page] = lines - len(self._owned[page])

    def _find_chain(self, starts):
        """Look for a page with a free line to which the starts can hand a pointer on, in one or more steps.

        Returns the page, or None, and for each page that was reached the pointer that led to it
        (None for a start). The free lines of the starts do not count.
        """
        came_by = {page: None for page in starts}
        waiting = list(starts)
        at = 0
        while at < len(waiting):
            owned = self._owned[waiting[at]]
            for pointer, other in owned.items():
                if other not in came_by:
                    came_by[other] = pointer
                    if self._free[other] > 0:
                        return other, came_by
                    waiting.append(other)
            at += 1
        return None, came_by

    def _shift(self, came_by, last):
        """Change the owners along the chain to the last page. Returns its first page, which has a free line then."""
        page = last
        while came_by[page] is not None:
            pointer = came_by[page]
            page = self._owner[pointer]
            self.hand_over(pointer)
        return page
