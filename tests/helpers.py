"""What several tests need: plain searches that know nothing of the package's ways, and drawn webs."""

from itertools import combinations, product
from random import Random

from onecopy.dealings import deal
from onecopy.errors import ShortLot
from onecopy.standings import Standing
from onecopy.webs import Web


def all_lots(pages):
    """All lots of a list of pages, the empty one too."""
    return [list(lot) for size in range(len(pages) + 1) for lot in combinations(pages, size)]


def within(web, lot):
    """The number of pointers within the lot, counted one by one."""
    return len([1 for holder, target in web.arrows() if holder in lot and target in lot])


def room(standing, lot):
    """Blank lines minus pointers within."""
    return sum(standing.blanks()[page] for page in set(lot)) - within(standing.web, lot)


def has_short(standing, lot):
    """Whether some subset of the lot is short, by a search through all of them."""
    return any(room(standing, part) < 0 for part in all_lots(sorted(set(lot))))


def dealings(standing):
    """All dealings, by a search through all lists of owners."""
    arrows = standing.web.arrows()
    return [
        list(owners) for owners in product(*arrows)
        if all(owners.count(page) <= number for page, number in enumerate(standing.blanks()))
    ]


def is_dealing_plainly(standing, owners):
    """Point 9, word by word."""
    arrows = standing.web.arrows()
    return (
        len(owners) == len(arrows)
        and all(owner in arrow for owner, arrow in zip(owners, arrows))
        and all(owners.count(page) <= number for page, number in enumerate(standing.blanks()))
    )


def plain_trim(standing, lot):
    """Point 12, word by word."""
    rest = sorted(set(lot))
    for page in sorted(set(lot)):
        without = [other for other in rest if other != page]
        if has_short(standing, without):
            rest = without
    return rest


def matches_all(standing, lot):
    """Whether each pointer within the lot finds a line of its own, one pointer after the other (Kuhn's way)."""
    slots = {page: [] for page in lot}

    def place(arrow, tried):
        for page in arrow:
            if page not in tried:
                tried.add(page)
                if len(slots[page]) < standing.blank_of(page):
                    slots[page].append(arrow)
                    return True
                for at, other in enumerate(slots[page]):
                    if place(other, tried):
                        slots[page][at] = arrow
                        return True
        return False

    inside = set(lot)
    return all(place(arrow, set()) for arrow in standing.web.arrows() if inside.issuperset(arrow))


def trim_by_matching(standing, lot):
    """Point 12 for webs in which not all lots can be gone through."""
    rest = sorted(set(lot))
    for page in sorted(set(lot)):
        without = [other for other in rest if other != page]
        if not matches_all(standing, without):
            rest = without
    return rest


def has_dealing(standing):
    try:
        deal(standing)
    except ShortLot:
        return False
    return True


def greatest_degree(web):
    return max(web.degree(page) for page in range(web.pages))


def all_standings(web, lines):
    """All standings of a web, ordered by their lists of blank lines."""
    return [Standing(web, lines, list(blank)) for blank in product(range(lines + 1), repeat=web.pages)]


def two_way_star(leaves):
    """Page 0 and the leaves point to one another."""
    return Web(leaves + 1, [(0, leaf) for leaf in range(1, leaves + 1)] + [(leaf, 0) for leaf in range(1, leaves + 1)])


def small_webs():
    """Webs of up to 7 pages of every kind that the document names."""
    webs = [Web(1, []), Web(4, [])]
    webs += [Web.path(pages) for pages in range(2, 6)]
    webs += [Web.path(pages, two_way=True) for pages in range(2, 5)]
    webs += [Web.ring(pages) for pages in range(2, 7)]
    webs += [Web(3, [(0, 1), (2, 1), (2, 0)]), Web(4, [(0, 1), (1, 2), (2, 0), (3, 1)])]
    webs += [Web.of_parents([None, 0, 0, 0, 0]), Web.of_parents([1, None, 1, 2, 2, 0, 0]), two_way_star(3)]
    webs += [Web(6, [(5, 0), (0, 5), (3, 1), (4, 2)]), Web(7, [(0, 6), (6, 3), (3, 0), (1, 2), (2, 1), (5, 4)])]
    webs += [Web(3, [(a, b) for a in range(3) for b in range(3) if a != b])]
    return webs


def drawn_web(draw, pages, pointers):
    """A web with so many pointers, drawn by a Random, or with all that there are."""
    every = [(a, b) for a in range(pages) for b in range(pages) if a != b]
    return Web(pages, draw.sample(every, min(pointers, len(every))))


def drawn_forest(draw, pages, two_way=0.4, cut=0.15):
    """A forest whose pages are numbered in any order."""
    names = list(range(pages))
    draw.shuffle(names)
    pointers = []
    for at in range(1, pages):
        if draw.random() >= cut:
            ends = [names[at], names[draw.randrange(at)]]
            draw.shuffle(ends)
            pointers.append(tuple(ends))
            if draw.random() < two_way:
                pointers.append((ends[1], ends[0]))
    draw.shuffle(pointers)
    return Web(pages, pointers)


def row_webs():
    """Webs for long rows of updates: paths, rings, stars, trees and webs with many pointers."""
    draw = drawn(53)
    return [
        Web.path(2), Web.path(7), Web.ring(2), Web.ring(3), Web.ring(8), Web.path(6, two_way=True),
        two_way_star(5), Web.of_parents([None, 0, 0, 0, 0]), Web.of_parents([4, 4, 4, 4, None, 0, 0, 1]),
        drawn_forest(draw, 12), drawn_web(draw, 6, 30), drawn_web(draw, 9, 25), drawn_web(draw, 12, 60),
    ]


def drawn_standing(draw, web, lines):
    """A standing with any numbers of blank lines."""
    return Standing(web, lines, [draw.randint(0, lines) for _ in range(web.pages)])


def tight_standing(draw, web):
    """A standing that has just as many blank lines as it needs, in a drawn way."""
    blank = [0] * web.pages
    for arrow in web.arrows():
        blank[draw.choice(arrow)] += 1
    return Standing(web, max(blank + [1]), blank)


def one_fewer(draw, standing):
    """The standing with one blank line fewer on one page that has any."""
    blank = standing.blanks()
    blank[draw.choice([page for page, number in enumerate(blank) if number > 0])] -= 1
    return Standing(standing.web, standing.lines, blank)


def drawn(seed):
    """A source of drawn numbers that are the same in each run."""
    return Random(seed)
