"""Points 9 to 13 and the interface of onecopy.dealings."""

import unittest

from onecopy.dealings import deal, holds_short, is_dealing, slack, trim
from onecopy.errors import NoPage, NotShort, ShortLot
from onecopy.standings import Standing
from onecopy.webs import Web
from tests.helpers import (
    all_lots, all_standings, dealings, drawn, drawn_forest, drawn_standing, drawn_web, has_short,
    is_dealing_plainly, matches_all, one_fewer, plain_trim, room, small_webs, tight_standing, trim_by_matching,
    two_way_star,
)


def every_page(standing):
    return list(range(standing.web.pages))


def all_pointers(pages):
    return Web(pages, [(a, b) for a in range(pages) for b in range(pages) if a != b])


def small_standings(seed, many):
    """Drawn standings of small webs, some of them with few blank lines."""
    draw = drawn(seed)
    webs = small_webs() + [drawn_web(draw, draw.randint(2, 7), draw.randint(1, 14)) for _ in range(25)]
    found = []
    for web in webs:
        for _ in range(many):
            found.append(drawn_standing(draw, web, draw.randint(0, 4)))
        if web.arrows():
            tight = tight_standing(draw, web)
            found += [tight, one_fewer(draw, tight)]
    return found


def large_standings(seed):
    """Standings of webs of 40 and 200 pages, with and without a dealing."""
    draw = drawn(seed)
    webs = [Web.path(40), Web.ring(40), Web.path(200, two_way=True), Web.ring(200), two_way_star(39),
            drawn_forest(draw, 40), drawn_forest(draw, 200), drawn_web(draw, 40, 60), drawn_web(draw, 40, 300),
            drawn_web(draw, 200, 230), drawn_web(draw, 200, 600)]
    found = []
    for web in webs:
        tight = tight_standing(draw, web)
        found += [tight, one_fewer(draw, tight), one_fewer(draw, one_fewer(draw, tight))]
        found.append(Standing(web, tight.lines, draw.sample(tight.blanks(), web.pages)))
    return found


class DealingCase(unittest.TestCase):
    def short_lot(self, call, *arguments):
        """The lot of a ShortLot, which must be a short lot of the standing."""
        with self.assertRaises(ShortLot) as caught:
            call(*arguments)
        lot = caught.exception.lot
        self.assertEqual(lot, sorted(set(lot)))
        self.assertLess(room(arguments[0], lot), 0)
        return lot

    def page_outside(self, call, *arguments):
        with self.assertRaises(NoPage) as caught:
            call(*arguments)
        return caught.exception.page

    def check_slack(self, standing, page):
        """The number, the owners and the lot prove one another."""
        number, owners, lot = slack(standing, page)
        self.assertTrue(is_dealing_plainly(standing, owners))
        self.assertEqual(standing.blank_of(page) - owners.count(page), number)
        self.assertEqual(lot, sorted(set(lot)))
        self.assertIn(page, lot)
        self.assertEqual(room(standing, lot), number)
        return number


class ExamplesTest(DealingCase):
    def test_first(self):
        standing = Standing(Web.path(3), 2, [0, 1, 1])
        self.assertEqual([deal(standing), slack(standing, 2)], [[1, 2], (0, [1, 2], [0, 1, 2])])

    def test_second(self):
        self.assertEqual(trim(Standing(Web.path(4), 2, [2, 0, 1, 0]), [0, 1, 2, 3]), [1, 2, 3])


class IsDealingTest(DealingCase):
    def test_right(self):
        standing = Standing(Web.path(3), 2, [1, 1, 1])
        for owners in [[0, 1], [0, 2], [1, 2]]:
            self.assertIs(is_dealing(standing, owners), True)
        self.assertIs(is_dealing(Standing(Web(2, []), 0, [0, 0]), []), True)
        self.assertIs(is_dealing(Standing(Web.ring(2), 2, [2, 0]), [0, 0]), True)

    def test_wrong_length(self):
        standing = Standing(Web.path(3), 2, [2, 2, 2])
        for owners in [[], [0], [0, 1, 1], [0, 1, 2], [1, 1, 0, 0]]:
            self.assertIs(is_dealing(standing, owners), False)
        self.assertIs(is_dealing(Standing(Web(2, []), 1, [1, 1]), [0]), False)

    def test_wrong_owner(self):
        standing = Standing(Web.path(4), 3, [3, 3, 3, 3])
        for owners in [[2, 1, 2], [0, 0, 2], [0, 3, 2], [0, 1, 1], [0, 1, 4], [0, 1, -1], [-4, 1, 2], [200, 1, 2]]:
            self.assertIs(is_dealing(standing, owners), False, owners)

    def test_one_more_than_blank(self):
        star = two_way_star(3)
        standing = Standing(star, 4, [3, 1, 1, 1])
        self.assertIs(is_dealing(standing, [0, 0, 0, 1, 2, 3]), True)
        self.assertIs(is_dealing(standing, [0, 0, 0, 0, 2, 3]), False)
        self.assertIs(is_dealing(standing, [1, 0, 0, 1, 2, 3]), False)
        self.assertIs(is_dealing(Standing(Web.path(2), 1, [0, 0]), [0]), False)

    def test_all_lists_of_small_webs(self):
        draw = drawn(11)
        for standing in small_standings(12, 1):
            arrows = standing.web.arrows()
            for owners in dealings(standing)[:20] if len(arrows) < 9 else []:
                self.assertIs(is_dealing(standing, owners), True)
            for _ in range(8):
                owners = [draw.choice(arrow) for arrow in arrows]
                self.assertIs(is_dealing(standing, owners), is_dealing_plainly(standing, owners))
                if owners:
                    owners[draw.randrange(len(owners))] = draw.randint(-1, standing.web.pages)
                    self.assertIs(is_dealing(standing, owners), is_dealing_plainly(standing, owners))


class DealTest(DealingCase):
    def check_deal(self, standing, expected):
        if expected:
            self.assertTrue(is_dealing_plainly(standing, deal(standing)))
        else:
            self.short_lot(deal, standing)

    def test_small_webs(self):
        for standing in small_standings(13, 4):
            self.check_deal(standing, not has_short(standing, every_page(standing)))

    def test_all_standings_of_small_webs(self):
        for web in [Web.path(4), Web.ring(4), Web.ring(2), all_pointers(3), Web(3, [(0, 1), (1, 0), (2, 1)])]:
            for standing in all_standings(web, 2):
                self.check_deal(standing, bool(dealings(standing)))

    def test_no_lines(self):
        self.assertEqual(deal(Standing(Web(3, []), 0, [0, 0, 0])), [])
        self.assertEqual(self.short_lot(deal, Standing(Web.path(2), 0, [0, 0])), [0, 1])

    def test_large_webs(self):
        for standing in large_standings(14):
            self.check_deal(standing, matches_all(standing, every_page(standing)))

    def test_just_enough_and_one_fewer(self):
        draw = drawn(15)
        for pages, pointers in [(40, 800), (200, 5000), (200, 11000)]:
            tight = tight_standing(draw, drawn_web(draw, pages, pointers))
            self.check_deal(tight, True)
            self.check_deal(one_fewer(draw, tight), False)

    def test_all_pointers_of_200_pages(self):
        web = all_pointers(200)
        self.short_lot(deal, Standing.fresh(web, 60))
        self.check_deal(Standing.fresh(web, 199), True)


class HoldsShortTest(DealingCase):
    def test_small_webs(self):
        for standing in small_standings(16, 1):
            for lot in all_lots(every_page(standing)):
                self.assertIs(holds_short(standing, lot), has_short(standing, lot))

    def test_subset_is_enough(self):
        standing = Standing(Web.path(4), 9, [9, 0, 0, 9])
        self.assertIs(holds_short(standing, [0, 1, 2, 3]), True)
        self.assertIs(standing.is_short([0, 1, 2, 3]), False)
        self.assertIs(holds_short(standing, [3, 1, 0]), False)

    def test_empty_order_and_duplicates(self):
        standing = Standing(Web.path(3), 2, [0, 1, 0])
        self.assertIs(holds_short(standing, []), False)
        self.assertIs(holds_short(standing, [2, 0, 1, 1, 2]), True)
        self.assertIs(holds_short(standing, [1, 1, 0, 0]), False)

    def test_no_page(self):
        standing = Standing(Web.path(3), 2, [0, 0, 0])
        self.assertEqual(self.page_outside(holds_short, standing, [0, 1, 3, -1]), 3)
        self.assertEqual(self.page_outside(holds_short, standing, [-1, 3]), -1)
        self.assertEqual(self.page_outside(holds_short, standing, [2, 200, 5]), 200)

    def test_large_webs(self):
        draw = drawn(17)
        for standing in large_standings(18):
            pages = standing.web.pages
            lot = draw.sample(range(pages), pages * 3 // 4)
            self.assertIs(holds_short(standing, lot), not matches_all(standing, lot))


class TrimTest(DealingCase):
    def not_short(self, standing, lot):
        with self.assertRaises(NotShort) as caught:
            trim(standing, lot)
        self.assertEqual(caught.exception.lot, sorted(set(lot)))

    def check_trim(self, standing, lot, expected):
        found = trim(standing, lot)
        self.assertEqual(found, expected)
        self.assertLess(room(standing, found), 0)
        for page in found:
            self.assertFalse(holds_short(standing, [other for other in found if other != page]))
        self.check_connected(standing.web, found)

    def check_connected(self, web, lot):
        arrows = [arrow for arrow in web.arrows() if arrow[0] in lot and arrow[1] in lot]
        reached = {lot[0]}
        for _ in lot:
            reached |= {page for arrow in arrows if not reached.isdisjoint(arrow) for page in arrow}
        self.assertEqual(sorted(reached), lot)

    def test_small_webs(self):
        draw = drawn(19)
        for standing in small_standings(20, 2):
            for lot in draw.sample(all_lots(every_page(standing)), min(12, 2 ** standing.web.pages)):
                lot = draw.sample(lot + lot, 2 * len(lot))
                if has_short(standing, lot):
                    self.check_trim(standing, lot, plain_trim(standing, lot))
                else:
                    self.not_short(standing, lot)

    def test_all_pages_of_small_webs(self):
        for standing in small_standings(21, 3):
            if has_short(standing, every_page(standing)):
                self.check_trim(standing, every_page(standing), plain_trim(standing, every_page(standing)))
            else:
                self.not_short(standing, every_page(standing))

    def test_two_short_lots(self):
        standing = Standing(Web(4, [(0, 1), (2, 3)]), 1, [0, 0, 0, 0])
        self.check_trim(standing, [0, 1, 2, 3], [2, 3])
        self.check_trim(standing, [3, 1, 0], [0, 1])
        joined = Standing(Web(5, [(0, 4), (4, 1), (4, 2), (3, 4)]), 4, [0, 0, 0, 0, 1])
        self.check_trim(joined, [4, 3, 2, 1, 0], [2, 3, 4])

    def test_order_and_duplicates(self):
        standing = Standing(Web.path(4), 2, [2, 0, 1, 0])
        self.check_trim(standing, [3, 3, 0, 2, 1, 2], [1, 2, 3])
        self.not_short(standing, [2, 0, 1, 2, 1])
        self.not_short(standing, [])

    def test_no_lines(self):
        self.check_trim(Standing.fresh(Web.path(5), 0), [0, 1, 2, 3, 4], [3, 4])
        self.not_short(Standing.fresh(Web(3, []), 0), [0, 1, 2])

    def test_no_page_ahead_of_not_short(self):
        standing = Standing.fresh(Web.path(3), 2)
        self.assertEqual(self.page_outside(trim, standing, [0, 5, 3]), 5)
        self.assertEqual(self.page_outside(trim, standing, [1, -1, 3]), -1)
        self.assertEqual(self.page_outside(trim, Standing.fresh(Web.path(3), 0), [0, 1, 2, 3]), 3)

    def test_large_webs(self):
        draw = drawn(22)
        for standing in large_standings(23):
            pages = standing.web.pages
            for lot in [every_page(standing), draw.sample(range(pages), pages * 9 // 10)]:
                if matches_all(standing, lot):
                    self.not_short(standing, lot)
                else:
                    self.check_trim(standing, lot, trim_by_matching(standing, lot))

    def test_many_pointers(self):
        draw = drawn(24)
        web = drawn_web(draw, 200, 9000)
        standing = one_fewer(draw, tight_standing(draw, web))
        found = trim(standing, every_page(standing))
        self.assertLess(room(standing, found), 0)
        for page in draw.sample(found, 10):
            self.assertFalse(holds_short(standing, [other for other in found if other != page]))
        full = Standing.fresh(all_pointers(200), 60)
        self.assertEqual(trim(full, every_page(full)), list(range(138, 200)))

    def test_whole_ring(self):
        for page in [0, 77, 199]:
            blank = [1] * 200
            blank[page] = 0
            self.assertEqual(trim(Standing(Web.ring(200), 2, blank), list(range(200))), list(range(200)))


class SlackTest(DealingCase):
    def test_small_webs(self):
        for standing in small_standings(25, 2):
            lots = all_lots(every_page(standing))
            for page in every_page(standing):
                if has_short(standing, every_page(standing)):
                    self.short_lot(slack, standing, page)
                else:
                    number = self.check_slack(standing, page)
                    self.assertEqual(number, min(room(standing, lot) for lot in lots if page in lot))

    def test_greatest_number_of_free_lines(self):
        draw = drawn(26)
        for web in [Web.path(4), Web.ring(3), Web.ring(2), Web(4, [(0, 1), (1, 0), (2, 1), (3, 1)])]:
            for _ in range(12):
                standing = drawn_standing(draw, web, 3)
                lists = dealings(standing)
                for page in every_page(standing) if lists else []:
                    most = max(standing.blank_of(page) - owners.count(page) for owners in lists)
                    self.assertEqual(self.check_slack(standing, page), most)

    def test_without_pointers(self):
        self.assertEqual(slack(Standing(Web(2, []), 3, [3, 0]), 0)[:2], (3, []))
        self.assertEqual(slack(Standing(Web(1, []), 0, [0]), 0), (0, [], [0]))

    def test_errors_in_order(self):
        short = Standing(Web.path(3), 2, [0, 1, 0])
        for page in [3, -1, 200]:
            self.assertEqual(self.page_outside(slack, short, page), page)
            self.assertEqual(self.page_outside(slack, Standing.fresh(Web.path(3), 2), page), page)
        self.short_lot(slack, short, 0)

    def test_large_webs(self):
        draw = drawn(27)
        for standing in large_standings(28):
            page = draw.randrange(standing.web.pages)
            if matches_all(standing, every_page(standing)):
                number = self.check_slack(standing, page)
                if sum(standing.blanks()) == len(standing.web.arrows()):
                    self.assertEqual(number, 0)
            else:
                self.short_lot(slack, standing, page)

    def test_many_free_lines(self):
        draw = drawn(29)
        web = drawn_web(draw, 200, 4000)
        standing = Standing(web, 60, [draw.randint(30, 60) for _ in range(200)])
        for page in [0, 50, 199]:
            self.check_slack(standing, page)


class CopiesTest(DealingCase):
    def test_arguments_stay(self):
        standing = Standing(Web.path(4), 2, [2, 0, 1, 0])
        lot = [3, 1, 2, 1, 0]
        trim(standing, lot)
        holds_short(standing, lot)
        self.assertEqual(lot, [3, 1, 2, 1, 0])
        owners = [1, 2]
        is_dealing(Standing(Web.path(3), 1, [0, 1, 1]), owners)
        self.assertEqual(owners, [1, 2])
        self.assertEqual([standing.blanks(), standing.web.arrows()], [[2, 0, 1, 0], [(0, 1), (1, 2), (2, 3)]])

    def test_results_are_new(self):
        standing = Standing(Web.path(3), 2, [0, 1, 1])
        deal(standing).append(9)
        number, owners, lot = slack(standing, 2)
        owners.clear()
        lot.clear()
        self.assertEqual([number, deal(standing), slack(standing, 2)], [0, [1, 2], (0, [1, 2], [0, 1, 2])])

    def test_lot_of_an_error_is_new(self):
        standing = Standing(Web.path(3), 2, [0, 1, 0])
        self.short_lot(deal, standing).clear()
        self.short_lot(deal, standing)
        lot = [1, 0]
        with self.assertRaises(NotShort) as caught:
            trim(standing, lot)
        lot.append(2)
        self.assertEqual(caught.exception.lot, [0, 1])


if __name__ == "__main__":
    unittest.main()
