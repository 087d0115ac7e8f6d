"""Points 14 and 15 and the interface of onecopy.forests."""

import unittest

from onecopy.dealings import is_dealing
from onecopy.errors import HasRing, ShortLot
from onecopy.forests import debts, deepest, tree_parents
from onecopy.standings import Standing
from onecopy.webs import Web
from tests.helpers import (
    all_lots, all_standings, dealings, drawn, drawn_forest, drawn_standing, has_short, matches_all, room,
    tight_standing, two_way_star,
)

FORESTS = [
    Web(1, []), Web(4, []), Web.path(4), Web.path(4, two_way=True), Web.ring(2), two_way_star(3),
    Web(5, [(4, 0), (2, 4), (4, 2), (1, 2), (3, 1)]), Web(6, [(5, 1), (1, 5), (0, 3), (4, 3), (3, 4)]),
    Web.of_parents([1, None, 1, 2, 2, 0, 0]), Web(3, [(1, 2), (0, 1), (1, 0)]),
]


def path_up(parents, page):
    """The page and all pages on its way to the root."""
    found = [page]
    while parents[found[-1]] is not None:
        found.append(parents[found[-1]])
    return found


def tie(web, page, parent):
    """The pointers between a page and its parent, ascending."""
    return [arrow for arrow in web.arrows() if set(arrow) == {page, parent}]


def plain_debts(standing):
    """Point 14, word by word, from above."""
    parents = tree_parents(standing.web)

    def debt(page):
        owed = sum(debt(child) for child, parent in enumerate(parents) if parent == page)
        size = 0 if parents[page] is None else len(tie(standing.web, page, parents[page]))
        return max(0, size - standing.blank_of(page) + owed)

    return [debt(page) for page in range(standing.web.pages)]


def connected(web, lot):
    reached = {lot[0]}
    for _ in lot:
        for arrow in web.arrows():
            if arrow[0] in lot and arrow[1] in lot and not reached.isdisjoint(arrow):
                reached |= set(arrow)
    return reached == set(lot)


def ring_of(self, call, *arguments):
    with self.assertRaises(HasRing) as caught:
        call(*arguments)
    return caught.exception.page


class ParentsTest(unittest.TestCase):
    def test_plain(self):
        self.assertEqual(tree_parents(Web(1, [])), [None])
        self.assertEqual(tree_parents(Web(3, [])), [None, None, None])
        self.assertEqual(tree_parents(Web.path(4)), [None, 0, 1, 2])
        self.assertEqual(tree_parents(Web.ring(2)), [None, 0])
        self.assertEqual(tree_parents(Web.of_parents([1, None, 1])), [None, 0, 1])
        self.assertEqual(tree_parents(Web(6, [(5, 1), (1, 5), (0, 3), (4, 3), (3, 4)])), [None, None, None, 0, 3, 1])

    def test_direction_does_not_matter(self):
        self.assertEqual(tree_parents(Web(4, [(3, 2), (2, 1), (1, 0)])), [None, 0, 1, 2])
        self.assertEqual(tree_parents(Web.path(200, two_way=True)), [None] + list(range(199)))

    def test_drawn_forests(self):
        draw = drawn(31)
        for pages in [2, 3, 6, 9, 14, 40, 200]:
            for _ in range(6):
                web = drawn_forest(draw, pages)
                parents = tree_parents(web)
                roots = [part[0] for part in web.parts()]
                self.assertEqual([page for page in range(pages) if parents[page] is None], roots)
                for part in web.parts():
                    for page in part:
                        self.assertEqual(path_up(parents, page)[-1], part[0])
                for page, parent in enumerate(parents):
                    self.assertTrue(parent is None or tie(web, page, parent))

    def test_rings(self):
        self.assertEqual(ring_of(self, tree_parents, Web.ring(3)), 0)
        self.assertEqual(ring_of(self, tree_parents, Web.ring(200)), 0)
        self.assertEqual(ring_of(self, tree_parents, Web(3, [(0, 1), (0, 2), (1, 2)])), 0)

    def test_least_page_of_the_first_part_with_a_ring(self):
        web = Web(9, [(0, 4), (1, 7), (7, 8), (8, 6), (6, 7), (2, 3), (3, 5), (5, 2)])
        self.assertEqual(ring_of(self, tree_parents, web), 1)
        self.assertEqual(ring_of(self, tree_parents, Web(6, [(0, 1), (4, 5), (5, 3), (3, 4)])), 3)
        self.assertEqual(ring_of(self, tree_parents, Web(5, [(4, 3), (3, 2), (2, 4), (2, 1)])), 1)


class DebtsTest(unittest.TestCase):
    def test_plain(self):
        self.assertEqual(debts(Standing(Web.path(3), 2, [0, 1, 0])), [1, 1, 1])
        self.assertEqual(debts(Standing(Web.path(3), 2, [0, 2, 0])), [0, 0, 1])
        self.assertEqual(debts(Standing(Web.ring(2), 3, [0, 0])), [2, 2])
        self.assertEqual(debts(Standing(Web.ring(2), 3, [0, 3])), [0, 0])
        self.assertEqual(debts(Standing(Web(2, []), 0, [0, 0])), [0, 0])
        self.assertEqual(debts(Standing(two_way_star(3), 2, [0, 0, 0, 1])), [5, 2, 2, 1])

    def test_word_by_word(self):
        draw = drawn(32)
        webs = FORESTS + [drawn_forest(draw, draw.randint(2, 30)) for _ in range(20)]
        for web in webs:
            for lines in [0, 1, 2, 4]:
                standing = drawn_standing(draw, web, lines)
                self.assertEqual(debts(standing), plain_debts(standing))

    def test_by_lots(self):
        draw = drawn(33)
        for web in FORESTS:
            parents = tree_parents(web)
            for _ in range(4):
                standing = drawn_standing(draw, web, 3)
                found = debts(standing)
                for page in range(web.pages):
                    below = [other for other in range(web.pages) if page in path_up(parents, other)]
                    lots = [lot for lot in all_lots(below) if page in lot and connected(web, lot)]
                    size = 0 if parents[page] is None else len(tie(web, page, parents[page]))
                    most = max(-room(standing, lot) for lot in lots)
                    self.assertEqual(found[page], max(0, size + most))

    def test_debts_tell_of_a_dealing(self):
        for web in [Web.path(4), Web.path(3, two_way=True), Web(4, [(3, 0), (2, 3), (3, 2), (1, 3)])]:
            parents = tree_parents(web)
            sizes = [0 if parents[page] is None else len(tie(web, page, parents[page])) for page in range(web.pages)]
            for standing in all_standings(web, 2):
                fits = all(debt <= size for debt, size in zip(debts(standing), sizes))
                self.assertIs(fits, not has_short(standing, list(range(web.pages))))

    def test_long_paths(self):
        self.assertEqual(debts(Standing(Web.path(200), 1, [1] * 199 + [0])), [0] + [1] * 199)
        self.assertEqual(debts(Standing.fresh(Web.path(200), 0)), [199] + list(range(199, 0, -1)))

    def test_rings(self):
        web = Web(7, [(0, 1), (6, 2), (2, 5), (5, 6), (3, 4)])
        self.assertEqual(ring_of(self, debts, Standing.fresh(web, 0)), 2)
        self.assertEqual(ring_of(self, deepest, Standing.fresh(web, 0)), 2)
        self.assertEqual(ring_of(self, deepest, Standing.fresh(web, 60)), 2)


class DeepestTest(unittest.TestCase):
    def short_lot(self, standing):
        with self.assertRaises(ShortLot) as caught:
            deepest(standing)
        lot = caught.exception.lot
        self.assertEqual(lot, sorted(set(lot)))
        self.assertLess(room(standing, lot), 0)

    def check(self, standing):
        """Point 15: who owns which pointers of each tie."""
        owners = deepest(standing)
        self.assertTrue(is_dealing(standing, owners))
        owner_of = dict(zip(standing.web.arrows(), owners))
        parents, found = tree_parents(standing.web), debts(standing)
        for page, parent in enumerate(parents):
            if parent is not None:
                arrows = tie(standing.web, page, parent)
                own = len(arrows) - found[page]
                expected = [page] * own + [parent] * (len(arrows) - own)
                self.assertEqual([owner_of[arrow] for arrow in arrows], expected)
        return owner_of

    def test_plain(self):
        self.assertEqual(deepest(Standing(Web.path(3), 2, [1, 1, 0])), [0, 1])
        self.assertEqual(deepest(Standing(Web.path(3), 2, [1, 1, 1])), [1, 2])
        self.assertEqual(deepest(Standing(Web.ring(2), 2, [1, 1])), [1, 0])
        self.assertEqual(deepest(Standing(Web.ring(2), 2, [2, 0])), [0, 0])
        self.assertEqual(deepest(Standing(Web(3, [(2, 1), (0, 2), (2, 0)]), 2, [1, 0, 2])), [2, 0, 2])
        self.assertEqual(deepest(Standing(Web(3, []), 0, [0, 0, 0])), [])

    def test_parent_owns_the_fewest(self):
        draw = drawn(34)
        for web in FORESTS:
            parents = tree_parents(web)
            for _ in range(12):
                standing = drawn_standing(draw, web, 3)
                lists = dealings(standing)
                if not lists:
                    self.short_lot(standing)
                    continue
                owner_of = self.check(standing)
                for owners in lists:
                    other = dict(zip(web.arrows(), owners))
                    for page, parent in enumerate(parents):
                        arrows = [] if parent is None else tie(web, page, parent)
                        least = len([arrow for arrow in arrows if owner_of[arrow] == parent])
                        self.assertGreaterEqual(len([arrow for arrow in arrows if other[arrow] == parent]), least)

    def test_all_standings_of_small_forests(self):
        for web in [Web.path(4), Web.ring(2), Web(3, [(1, 2), (2, 1), (0, 2)]), Web(4, [(3, 0), (1, 2), (2, 1)])]:
            for standing in all_standings(web, 3 if web.pages < 4 else 2):
                if dealings(standing):
                    self.check(standing)
                else:
                    self.short_lot(standing)

    def test_large_forests(self):
        draw = drawn(35)
        for pages in [40, 200]:
            for _ in range(6):
                web = drawn_forest(draw, pages)
                tight = tight_standing(draw, web)
                self.check(tight)
                other = Standing(web, 5, [draw.choice([0, 1, 1, 2, 5]) for _ in range(pages)])
                for standing in [Standing(web, tight.lines, draw.sample(tight.blanks(), pages)), other]:
                    if matches_all(standing, list(range(pages))):
                        self.check(standing)
                    else:
                        self.short_lot(standing)

    def test_short_lot_below_a_large_debt(self):
        self.short_lot(Standing(two_way_star(3), 6, [6, 0, 0, 0]).after(0))
        self.short_lot(Standing(Web(5, [(0, 1), (1, 2), (2, 3), (2, 4)]), 3, [3, 3, 0, 0, 0]))

    def test_lists_are_new(self):
        standing = Standing(Web.path(3), 2, [1, 1, 0])
        for call, argument in [(debts, standing), (deepest, standing), (tree_parents, standing.web)]:
            before = call(argument)
            call(argument).clear()
            self.assertEqual(call(argument), before)
        self.assertEqual(standing.blanks(), [1, 1, 0])


if __name__ == "__main__":
    unittest.main()
