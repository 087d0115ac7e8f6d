"""Chains: one-way paths on which an answer may copy several pages."""

from onecopy.errors import NoPage, NotKeepable
from onecopy.stretches import height_over


def heights(blank, copies):
    """The heights of the pages of the chain."""
    found = []
    height = 0
    for number in blank[::-1]:
        height = height_over(height, number, copies)
        found.append(height)
    return found[::-1]


def _lowest_too_high(blank, copies):
    """The lowest page whose height is greater than the number of copies, or None."""
    too_high = [page for page, height in enumerate(heights(blank, copies)) if height > copies]
    return too_high[-1] if too_high else None


def is_keepable_chain(blank, copies):
    """Whether the chain is keepable."""
    return _lowest_too_high(blank, copies) is None


def _after_copies(blank, lines, page, copied):
    """The blank lines after an update of the page in which these pages are copied. Everyone has the lines for it."""
    left = list(blank)
    if page not in copied:
        left[page] -= 1
    for target in copied:
        if target > 0 and target - 1 not in copied:
            left[target - 1] -= 1
    for target in copied:
        left[target] = lines
    return left


def _with_empty_above(blank, page):
    """The page and all pages without a blank line directly above it, ascending."""
    first = page
    while first > 0 and blank[first - 1] == 0:
        first -= 1
    return list(range(first, page + 1))


def _first_copied(blank, copies, page):
    """The pages that the first rule copies."""
    if blank[page] == 0:
        return _with_empty_above(blank, page)
    left = list(blank)
    left[page] -= 1
    lowest = _lowest_too_high(left, copies)
    return [] if lowest is None else _with_empty_above(left, lowest)


def chain_answer(blank, lines, copies, page):
    """The answer to an update of the page of a keepable chain, and the blank lines after it."""
    if not 0 <= page < len(blank):
        raise NoPage(page)
    lowest = _lowest_too_high(blank, copies)
    if lowest is not None:
        raise NotKeepable(lowest)
    copied = _first_copied(blank, copies, page)
    left = _after_copies(blank, lines, page, copied)
    lowest = _lowest_too_high(left, copies)
    if lowest is not None:
        copied = sorted([*copied, lowest])
        left = _after_copies(blank, lines, page, copied)
    return tuple(copied), left


def attack_row(blank, copies):
    """The updates with which the foe wins, none from a keepable chain."""
    first = _lowest_too_high(blank, copies)
    if first is None:
        return []
    # The height of the first page comes from pages without a blank line, and from pages with one, each of
    # which stands "copies" pages below the one before it, down to a page without a blank line.
    last = first + copies
    while blank[last] == 1:
        last += copies
    return list(range(last, first, -copies))


def count_chains(pages, lines, copies):
    """The number of keepable chains of so many pages."""
    # For each height of the topmost page the number of chains so far that have it.
    ways = [1] + [0] * copies
    for _ in range(pages):
        ways = _ways_over(ways, lines, copies)
    return sum(ways)


def _ways_over(ways, lines, copies):
    """The numbers of chains with one page more, for each height of its topmost page."""
    total = sum(ways)
    found = [total * (lines - 1)] + ways[:copies]
    # A page with one blank line has the height 1 over the greatest height, and 0 over all others.
    found[0] += total - ways[copies]
    found[1] += ways[copies]
    return found
