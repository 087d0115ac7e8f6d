"""Standings: a web, the number of lines of its pages, and how many of them are blank."""

from onecopy.errors import InvalidStanding, NoLine
from onecopy.webs import check_pages


def lines_used(web, page, copied):
    """The lines that an update of the page uses, for each page that uses any."""
    anew = set(copied)
    used = {}
    if page not in anew:
        used[page] = 1
    for target in sorted(anew):
        for holder in web.holders(target):
            if holder not in anew:
                used[holder] = used.get(holder, 0) + 1
    return used


class Standing:
    """The blank lines of each page of a web. A standing never changes."""

    def __init__(self, web, lines, blank):
        if len(blank) != web.pages:
            raise InvalidStanding(None)
        for page, number in enumerate(blank):
            if not 0 <= number <= lines:
                raise InvalidStanding(page)
        self.web = web
        self.lines = lines
        self._blank = list(blank)

    @classmethod
    def fresh(cls, web, lines):
        """The standing in which all lines are blank."""
        return cls(web, lines, [lines] * web.pages)

    def __eq__(self, other):
        return (isinstance(other, Standing) and self.web == other.web
                and self.lines == other.lines and self._blank == other._blank)

    def blanks(self):
        """For each page the number of its blank lines."""
        return list(self._blank)

    def blank_of(self, page):
        """The number of blank lines of the page."""
        check_pages(self.web, [page])
        return self._blank[page]

    def used(self):
        """The number of lines of all pages that are not blank."""
        return self.lines * self.web.pages - sum(self._blank)

    def is_short(self, lot):
        """Whether the lot has fewer blank lines than pointers within it."""
        within = self.web.inner(lot)
        return sum([self._blank[page] for page in sorted(set(lot))]) < within

    def after(self, page, *copied):
        """The standing after an update of the page in which the pages "copied" are copied."""
        check_pages(self.web, [page, *copied])
        used = lines_used(self.web, page, copied)
        self._check_lines(used)
        blank = [number - used.get(at, 0) for at, number in enumerate(self._blank)]
        for target in copied:
            blank[target] = self.lines
        return Standing(self.web, self.lines, blank)

    def _check_lines(self, used):
        """Raise NoLine for the least page that uses more lines than it has blank."""
        for page in sorted(list(used)):
            if used[page] > self._blank[page]:
                raise NoLine(page)

    def _is_legal(self, page, copied):
        """Whether the update of the page is legal when these pages are copied."""
        used = lines_used(self.web, page, copied)
        return all([used[at] <= self._blank[at] for at in used])

    def answers(self, page):
        """The legal answers to an update of the page that copy at most one page."""
        check_pages(self.web, [page])
        possible = [()] + [(target,) for target in range(self.web.pages)]
        return [copied for copied in possible if self._is_legal(page, copied)]
