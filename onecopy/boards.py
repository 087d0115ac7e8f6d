"""Boards: sets of standings of one web, on which an answer is tried for all standings at once."""


class Board:
    """All standings of so many pages with so many lines, counted in the order of their lists of blank lines.

    A set of them is a number: its bit i is 1 if the standing i is in the set. One blank line more on
    a page is a fixed step from standing to standing, so an update shifts all bits alike.
    """

    def __init__(self, pages, lines):
        self._lines = lines
        self._steps = [1] * pages
        for page in range(pages - 1, 0, -1):
            self._steps[page - 1] = self._steps[page] * (lines + 1)
        self.standings = self._steps[0] * (lines + 1)
        # For each page and number the set of the standings in which the page has at most so many blank lines.
        self._at_most = [[self._low_part(step, number) for number in range(lines + 1)] for step in self._steps]

    def _low_part(self, step, number):
        """The set in which the page with this step has at most so many blank lines."""
        block = (1 << step * (number + 1)) - 1
        period = step * (self._lines + 1)
        found = 0
        for at in range(self.standings // period):
            found = found | (block << at * period)
        return found

    def every(self):
        """The set of all standings."""
        return (1 << self.standings) - 1

    def members(self, found):
        """The indexes of the standings of a set, ascending."""
        return [place for place in range(self.standings) if (found >> place) & 1 == 1]

    def place_of(self, blank):
        """The index of the standing with these blank lines."""
        return sum([number * step for number, step in zip(blank, self._steps)])

    def blanks_at(self, place):
        """The list of the blank lines of the standing with this index."""
        return [place // step % (self._lines + 1) for step in self._steps]

    def before(self, later, copied, used):
        """The set of the standings from which an update leads into the set "later".

        The update copies the pages "copied", and each other page uses as many lines as the dict "used" tells.
        """
        found = later
        for page in copied:
            found = self._before_copy(found, page)
        for page, number in used.items():
            found = (found & self._at_most[page][self._lines - number]) << number * self._steps[page]
        return found

    def _before_copy(self, later, page):
        """The standings that differ at most on this page from one in "later" in which all its lines are blank."""
        step = self._steps[page]
        # Shifted so, the standings in which all lines are blank take the places of those in which none is.
        without = (later >> self._lines * step) & self._at_most[page][0]
        found = 0
        for number in range(self._lines + 1):
            found = found | (without << number * step)
        return found
