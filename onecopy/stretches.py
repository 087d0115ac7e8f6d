"""Stretches of a chain: what they make of the height of the page below them."""

from onecopy.errors import CopiesDiffer


def height_over(below, blank, copies):
    """The height of a page with so many blank lines over a page of the height "below"."""
    if blank == 0:
        return below + 1
    return 1 if blank == 1 and below >= copies else 0


def _lifted(below, blank, copies):
    """The height of the first page of the stretch, or None if some height in it is greater than the copies."""
    height = below
    for number in blank[::-1]:
        height = height_over(height, number, copies)
        if height > copies:
            return None
    return height


class Stretch:
    """A stretch of the pages of a chain, in which an answer may copy so many pages."""

    def __init__(self, blank, copies):
        self.copies = copies
        self._lift = [_lifted(below, blank, copies) for below in range(copies + 1)]

    def lift(self):
        """For each height of the page below the height of the first page, None if some height is too great."""
        return list(self._lift)

    def __add__(self, other):
        if self.copies != other.copies:
            raise CopiesDiffer(self.copies, other.copies)
        joined = Stretch([], self.copies)
        joined._lift = [None if height is None else self._lift[height] for height in other._lift]
        return joined

    def __eq__(self, other):
        return isinstance(other, Stretch) and self.copies == other.copies and self._lift == other._lift

    def is_keepable(self):
        """Whether the stretch is a keepable chain by itself."""
        return self._lift[0] is not None


def parting(first, second):
    """Two lists (above, below) with which exactly one of the stretches is keepable, None if they are equal."""
    if first.copies != second.copies:
        raise CopiesDiffer(first.copies, second.copies)
    for below, (one, other) in enumerate(zip(first.lift(), second.lift())):
        if one != other:
            # So many pages without a blank line have the height "below".
            return _room_over(one, other, first.copies), [0] * below
    return None


def _room_over(one, other, copies):
    """The blank lines of pages that may stand over exactly one of the two different heights."""
    if one is None or other is None:
        return []
    # Each page without a blank line makes the height greater by one.
    return [0] * (copies - min(one, other))
