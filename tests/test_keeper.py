"""Points 18, 20 and 22 and the interface of onecopy.keeper."""

import unittest

from onecopy.errors import NoLine, NoPage, ShortLot, TooFewLines
from onecopy.keeper import Keeper, Recorder, copies_bound
from onecopy.standings import Standing
from onecopy.webs import Web
from tests.helpers import (
    all_standings, drawn, drawn_forest, drawn_web, greatest_degree, has_dealing, is_dealing_plainly, room, row_webs,
    small_webs, tight_standing, two_way_star,
)


def tight_start(draw, web, lines):
    """A standing with just as many blank lines as there are pointers."""
    return Standing(web, lines, tight_standing(draw, web).blanks())


def ways_to_choose(web):
    """Rows of updates: always one page, the page with the fewest blank lines, drawn pages."""
    draw = drawn(61)
    return [
        lambda keeper: 0,
        lambda keeper: web.pages - 1,
        lambda keeper: min(range(web.pages), key=keeper.standing.blank_of),
        lambda keeper: draw.randrange(web.pages),
    ]


class KeeperCase(unittest.TestCase):
    def refused(self, error, call, *arguments):
        with self.assertRaises(error) as caught:
            call(*arguments)
        return caught.exception

    def check_update(self, keeper, page):
        """Points 7, 18 and 22 for one update. Returns the answer."""
        before, blank = keeper.standing, keeper.standing.blanks()
        answer = keeper.use_line(page)
        self.assertIsInstance(answer, tuple)
        self.assertIn(answer, before.answers(page))
        self.assertTrue(keeper.standing == before.after(page, *answer))
        self.assertEqual(before.blanks(), blank)
        try:
            stays = has_dealing(before.after(page))
        except NoLine:
            stays = False
        self.assertIs(answer == (), stays)
        owners = keeper.owners()
        self.assertTrue(is_dealing_plainly(keeper.standing, owners))
        self.assertEqual(keeper.owners(), owners)
        return answer


class MadeKeepersTest(KeeperCase):
    def test_first_standing(self):
        for standing in [Standing.fresh(Web.path(3), 2), Standing(Web.ring(4), 3, [0, 2, 1, 1]),
                         Standing(Web(2, []), 0, [0, 0])]:
            keeper = Keeper(standing)
            self.assertTrue(keeper.standing == standing)
            self.assertTrue(is_dealing_plainly(standing, keeper.owners()))

    def test_every_small_standing_with_a_dealing_is_taken(self):
        for web in [Web.path(3), Web.ring(3), Web.ring(2), Web(3, [(0, 1), (1, 0), (2, 1)])]:
            for standing in all_standings(web, greatest_degree(web)):
                if has_dealing(standing):
                    self.assertTrue(is_dealing_plainly(standing, Keeper(standing).owners()))
                else:
                    lot = self.refused(ShortLot, Keeper, standing).lot
                    self.assertEqual(lot, sorted(set(lot)))
                    self.assertLess(room(standing, lot), 0)

    def test_too_few_lines_for_the_least_page(self):
        web = Web(5, [(4, 3), (3, 2), (2, 4), (1, 2), (3, 1)])
        self.assertEqual([web.degree(page) for page in range(5)], [0, 2, 3, 3, 2])
        self.assertEqual(self.refused(TooFewLines, Keeper, Standing.fresh(web, 2)).page, 2)
        self.assertEqual(self.refused(TooFewLines, Keeper, Standing.fresh(web, 1)).page, 1)
        self.assertEqual(self.refused(TooFewLines, Keeper, Standing.fresh(web, 0)).page, 1)
        self.assertTrue(Keeper(Standing.fresh(web, 3)).standing == Standing.fresh(web, 3))

    def test_too_few_lines_ahead_of_short_lot(self):
        web = Web.path(4)
        self.assertEqual(self.refused(TooFewLines, Keeper, Standing(web, 1, [0, 0, 0, 0])).page, 1)
        lot = self.refused(ShortLot, Keeper, Standing(web, 2, [0, 0, 0, 0])).lot
        self.assertLess(room(Standing(web, 2, [0, 0, 0, 0]), lot), 0)

    def test_short_lot_of_large_webs(self):
        draw = drawn(62)
        for web in [Web.path(200, two_way=True), Web.ring(200), drawn_forest(draw, 200), drawn_web(draw, 60, 400)]:
            tight = tight_standing(draw, web)
            standing = Standing(web, max(tight.lines, greatest_degree(web)), tight.blanks())
            self.assertTrue(is_dealing_plainly(standing, Keeper(standing).owners()))
            blank = standing.blanks()
            blank[blank.index(max(blank))] -= 1
            short = Standing(web, standing.lines, blank)
            self.assertLess(room(short, self.refused(ShortLot, Keeper, short).lot), 0)

    def test_lists_are_new(self):
        blank = [2, 1, 2]
        keeper = Keeper(Standing(Web.path(3), 2, blank))
        owners = keeper.owners()
        told = list(owners)
        blank[0] = 0
        owners.clear()
        keeper.standing.blanks().clear()
        self.assertEqual(keeper.owners(), told)
        self.assertEqual(keeper.standing.blanks(), [2, 1, 2])


class UpdatesTest(KeeperCase):
    def test_no_page(self):
        for keeper in [Keeper(Standing.fresh(Web.path(3), 2)), Recorder(Standing.fresh(Web.path(3), 2))]:
            keeper.use_line(1)
            before, owners = keeper.standing, keeper.owners()
            for page in [3, -1, 200]:
                self.assertEqual(self.refused(NoPage, keeper.use_line, page).page, page)
            self.assertTrue(keeper.standing == before)
            self.assertEqual(keeper.owners(), owners)

    def test_a_page_by_itself(self):
        keeper = Keeper(Standing.fresh(Web(1, []), 2))
        self.assertEqual([self.check_update(keeper, 0) for _ in range(4)], [(), (), (0,), ()])
        none = Keeper(Standing.fresh(Web(2, []), 0))
        self.assertEqual([self.check_update(none, page) for page in [1, 0, 1]], [(1,), (0,), (1,)])

    def test_standing_told_earlier_stays(self):
        keeper = Keeper(Standing.fresh(Web.path(3), 2))
        told = []
        for _ in range(6):
            told.append((keeper.standing, keeper.standing.blanks()))
            keeper.use_line(1)
        for standing, blank in told:
            self.assertEqual(standing.blanks(), blank)
        self.assertNotEqual(told[0][1], told[1][1])

    def test_every_update_of_every_small_standing(self):
        for web in [Web.path(3), Web.ring(3), Web.ring(2), Web(3, [(0, 2), (1, 2), (0, 1)]), two_way_star(2)]:
            for lines in [greatest_degree(web), greatest_degree(web) + 1]:
                for standing in all_standings(web, lines):
                    for page in range(web.pages) if has_dealing(standing) else []:
                        self.check_update(Keeper(standing), page)

    def test_long_rows(self):
        draw = drawn(63)
        for web in row_webs() + small_webs():
            for lines in [greatest_degree(web), greatest_degree(web) + 2]:
                for start in [Standing.fresh(web, lines), tight_start(draw, web, lines)]:
                    for choose in ways_to_choose(web):
                        keeper = Keeper(start)
                        copies = sum(len(self.check_update(keeper, choose(keeper))) for _ in range(40))
                        self.assertLessEqual(copies, copies_bound(start, 40))

    def test_longer_rows_in_large_webs(self):
        draw = drawn(64)
        for web in [Web.path(200), Web.ring(200), drawn_web(draw, 200, 500), drawn_forest(draw, 200),
                    Web.path(200, two_way=True)]:
            start = Standing.fresh(web, greatest_degree(web))
            keeper = Keeper(start)
            copies = sum(len(keeper.use_line(draw.randrange(200))) for _ in range(800))
            for _ in range(10):
                copies += len(self.check_update(keeper, draw.randrange(200)))
                copies += len(self.check_update(keeper, min(range(200), key=keeper.standing.blank_of)))
            self.assertLessEqual(copies, copies_bound(start, 820))

    def test_sixty_lines(self):
        draw = drawn(65)
        web = Web(61, [(0, page) for page in range(1, 31)] + [(page, 0) for page in range(31, 61)])
        start = Standing.fresh(web, 60)
        keeper = Keeper(start)
        copies = 0
        for _ in range(150):
            copies += len(self.check_update(keeper, draw.choice([0, 0, 1, 31, 60])))
        self.assertLessEqual(copies, copies_bound(start, 150))


class RecorderTest(KeeperCase):
    def test_it_is_a_keeper(self):
        recorder = Recorder(Standing(Web.path(3), 2, [1, 1, 2]))
        self.assertIsInstance(recorder, Keeper)
        self.assertEqual(recorder.rows(), [])
        self.assertTrue(recorder.standing == Standing(Web.path(3), 2, [1, 1, 2]))
        self.assertTrue(is_dealing_plainly(recorder.standing, recorder.owners()))

    def test_same_errors(self):
        web = Web.path(4)
        self.assertEqual(self.refused(TooFewLines, Recorder, Standing(web, 1, [0, 0, 0, 0])).page, 1)
        short = Standing(web, 2, [1, 0, 0, 2])
        self.assertLess(room(short, self.refused(ShortLot, Recorder, short).lot), 0)

    def test_rows_are_the_updates(self):
        draw = drawn(66)
        for web in row_webs():
            start = Standing.fresh(web, greatest_degree(web))
            recorder = Recorder(start)
            expected = []
            for _ in range(30):
                page = draw.randrange(web.pages)
                expected.append((page, self.check_update(recorder, page)))
                self.assertEqual(recorder.rows(), expected)
            standing = start
            for page, answer in recorder.rows():
                standing = standing.after(page, *answer)
            self.assertTrue(standing == recorder.standing)

    def test_refused_updates_are_not_recorded(self):
        recorder = Recorder(Standing.fresh(Web.path(2), 1))
        for page in [2, -1]:
            self.refused(NoPage, recorder.use_line, page)
        self.assertEqual(recorder.rows(), [])
        recorder.use_line(1)
        self.refused(NoPage, recorder.use_line, 7)
        self.assertEqual(recorder.rows(), [(1, ())])

    def test_rows_told_earlier_stay(self):
        recorder = Recorder(Standing.fresh(Web.path(2), 1))
        first = recorder.use_line(0)
        rows = recorder.rows()
        second = recorder.use_line(0)
        self.assertEqual(rows, [(0, first)])
        rows.clear()
        recorder.rows().append((5, ()))
        self.assertEqual(recorder.rows(), [(0, first), (0, second)])


class CopiesBoundTest(KeeperCase):
    def test_by_hand(self):
        path = Web.path(3)
        for blank, updates, expected in [
            ([2, 2, 2], 0, 0), ([2, 2, 2], 1, 1), ([2, 2, 2], 7, 7), ([0, 1, 2], 0, 3), ([0, 1, 2], 7, 10),
        ]:
            self.assertEqual(copies_bound(Standing(path, 2, blank), updates), expected)
        for blank, updates, expected in [
            ([5, 5, 5], 3, 0), ([5, 5, 5], 4, 1), ([5, 5, 5], 7, 1), ([5, 5, 5], 8, 2), ([5, 4, 3], 4, 1),
            ([5, 4, 3], 5, 2), ([0, 0, 0], 0, 3), ([0, 0, 0], 1, 4),
        ]:
            self.assertEqual(copies_bound(Standing(path, 5, blank), updates), expected)
        self.assertEqual(copies_bound(Standing.fresh(two_way_star(3), 6), 10), 10)
        self.assertEqual(copies_bound(Standing.fresh(two_way_star(3), 9), 10), 2)
        self.assertEqual(copies_bound(Standing.fresh(Web(4, []), 0), 9), 9)
        self.assertEqual(copies_bound(Standing.fresh(Web(4, []), 60), 121), 1)

    def test_no_dealing_is_needed(self):
        self.assertEqual(copies_bound(Standing(Web.path(2), 1, [0, 0]), 3), 5)

    def test_too_few_lines(self):
        web = Web(4, [(3, 2), (3, 1), (1, 2)])
        for updates in [0, 5]:
            self.assertEqual(self.refused(TooFewLines, copies_bound, Standing.fresh(web, 1), updates).page, 1)
            self.assertEqual(self.refused(TooFewLines, copies_bound, Standing(web, 1, [0] * 4), updates).page, 1)
        self.assertEqual(copies_bound(Standing.fresh(web, 2), 5), 5)

    def test_at_each_update(self):
        draw = drawn(67)
        for web in row_webs():
            for lines in [greatest_degree(web), greatest_degree(web) + 1, greatest_degree(web) + 6]:
                for start in [Standing.fresh(web, lines), tight_start(draw, web, lines)]:
                    keeper = Keeper(start)
                    copies = 0
                    for updates in range(60):
                        self.assertLessEqual(copies, copies_bound(start, updates))
                        copies += len(keeper.use_line(draw.choice([0, 0, draw.randrange(web.pages)])))


if __name__ == "__main__":
    unittest.main()
