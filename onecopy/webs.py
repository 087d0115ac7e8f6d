"""Webs: pages that point to one another."""

from onecopy.errors import InvalidPointer, NoPage, TooFewLines


def check_pages(web, pages):
    """Raise NoPage for the first page of the list that is not in the web."""
    for page in pages:
        if not 0 <= page < web.pages:
            raise NoPage(page)


def lot_of(web, lot):
    """The lot in ascending order without duplicates. Raises NoPage as check_pages does."""
    check_pages(web, lot)
    return sorted(set(lot))


def crowded_page(web, lines):
    """The least page whose degree is greater than the number of lines, or None."""
    for page in range(web.pages):
        if web.degree(page) > lines:
            return page
    return None


def check_degrees(web, lines):
    """Raise TooFewLines for the least page whose degree is greater than the number of lines."""
    page = crowded_page(web, lines)
    if page is not None:
        raise TooFewLines(page)


def _is_pointer(pages, holder, target):
    """Whether both ends are pages, and two different ones."""
    return 0 <= holder < pages and 0 <= target < pages and holder != target


def _as_known(pages, pointers):
    """A dict whose keys are the pointers. Raises InvalidPointer for the first wrong one."""
    known = {}
    for index, (holder, target) in enumerate(pointers):
        if not _is_pointer(pages, holder, target) or (holder, target) in known:
            raise InvalidPointer(index)
        known[(holder, target)] = True
    return known


def _grouped(pages, pairs):
    """For each page the list of the second numbers of the pairs that begin with it."""
    found = [[] for _ in range(pages)]
    for page, other in pairs:
        found[page].append(other)
    return found


class Web:
    """Pages, counted from 0, and the pointers between them. A web never changes."""

    def __init__(self, pages, pointers):
        self.pages = pages
        self._known = _as_known(pages, pointers)
        self._arrows = sorted(list(self._known))
        self._targets = _grouped(pages, self._arrows)
        self._holders = _grouped(pages, [(target, holder) for holder, target in self._arrows])

    @classmethod
    def path(cls, pages, *, two_way=False):
        """The web in which each page points to the next one, and with two_way also back."""
        pointers = [(page, page + 1) for page in range(pages - 1)]
        if two_way:
            return cls(pages, pointers + [(page + 1, page) for page in range(pages - 1)])
        return cls(pages, pointers)

    @classmethod
    def ring(cls, pages):
        """The web in which each page points to the next one, and the last one to page 0."""
        return cls(pages, [(page, page + 1) for page in range(pages - 1)] + [(pages - 1, 0)])

    @classmethod
    def of_parents(cls, parents):
        """The web with a pointer from each parent in the list to the page at its index."""
        pages = len(parents)
        for page, parent in enumerate(parents):
            if parent is not None and not _is_pointer(pages, parent, page):
                raise InvalidPointer(page)
        return cls(pages, [(parent, page) for page, parent in enumerate(parents) if parent is not None])

    def __eq__(self, other):
        return isinstance(other, Web) and self.pages == other.pages and self._arrows == other._arrows

    def __contains__(self, pointer):
        return pointer in self._known

    def arrows(self):
        """The pointers, ascending."""
        return list(self._arrows)

    def holders(self, page):
        """The pages that point to the page."""
        check_pages(self, [page])
        return list(self._holders[page])

    def targets(self, page):
        """The pages that the page points to."""
        check_pages(self, [page])
        return list(self._targets[page])

    def neighbours(self, page):
        """The pages that form a tie with the page."""
        check_pages(self, [page])
        return sorted(set(self._holders[page] + self._targets[page]))

    def degree(self, page):
        """The number of pointers of which the page is an end."""
        check_pages(self, [page])
        return len(self._holders[page]) + len(self._targets[page])

    def inner(self, lot):
        """The number of pointers within the lot."""
        check_pages(self, lot)
        inside = set(lot)
        return len([target for page in sorted(inside) for target in self._targets[page] if target in inside])

    def parts(self):
        """The parts, each an ascending list of pages, ordered by their least pages."""
        found = []
        seen = {}
        for page in range(self.pages):
            if page not in seen:
                part = self._part_of(page)
                for member in part:
                    seen[member] = True
                found.append(part)
        return found

    def _part_of(self, page):
        """The part that contains the page."""
        reached = {page: True}
        waiting = [page]
        while waiting:
            nearest = self.neighbours(waiting.pop())
            for other in nearest:
                if other not in reached:
                    reached[other] = True
                    waiting.append(other)
        return sorted(list(reached))

    def has_ring(self, part):
        """Whether this part, one of the list of the parts, has a ring."""
        # A part of n pages without a ring has n - 1 ties, and each tie has two ends.
        return sum([len(self.neighbours(page)) for page in part]) >= 2 * len(part)

    def _is_one_way_ring(self, part):
        """Whether this part, one of the list of the parts, is a one-way ring."""
        single = [len(self._holders[page]) == len(self._targets[page]) == 1 for page in part]
        return len(part) >= 3 and all(single)

    def is_forest(self):
        """Whether the web has no ring."""
        return not any([self.has_ring(part) for part in self.parts()])

    def is_settled(self):
        """Whether each part has no ring or is a one-way ring."""
        return all([self._is_one_way_ring(part) or not self.has_ring(part) for part in self.parts()])
