"""Points 6 to 8 and 10 and the interface of onecopy.standings."""

import unittest

from onecopy.errors import InvalidStanding, NoLine, NoPage
from onecopy.standings import Standing
from onecopy.webs import Web
from tests.helpers import all_lots, all_standings, drawn, drawn_standing, drawn_web, room, small_webs


def uses(web, page, copied):
    """Point 7: the lines that each page uses."""
    lines = [0] * web.pages
    if page not in copied:
        lines[page] += 1
    for holder, target in web.arrows():
        if target in copied and holder not in copied:
            lines[holder] += 1
    return lines


def plain_after(standing, page, copied):
    """Point 7: the blank lines after the update, or the least page that has too few."""
    lines = uses(standing.web, page, copied)
    blank = standing.blanks()
    for at in range(standing.web.pages):
        if lines[at] > blank[at]:
            return at
    return [standing.lines if at in copied else blank[at] - lines[at] for at in range(standing.web.pages)]


class StandingCase(unittest.TestCase):
    def raised(self, error, call, *arguments):
        with self.assertRaises(error) as caught:
            call(*arguments)
        return caught.exception.page

    def check_after(self, standing, page, copied):
        expected = plain_after(standing, page, copied)
        before = standing.blanks()
        if isinstance(expected, int):
            self.assertEqual(self.raised(NoLine, standing.after, page, *copied), expected)
        else:
            found = standing.after(page, *copied)
            self.assertEqual(found.blanks(), expected)
            self.assertTrue(found.web == standing.web and found.lines == standing.lines)
            self.assertEqual(found.used(), standing.lines * standing.web.pages - sum(expected))
        self.assertEqual(standing.blanks(), before)


class ExamplesTest(StandingCase):
    def test_first(self):
        standing = Standing(Web.path(3), 2, [1, 0, 2])
        self.assertEqual(
            [standing.after(1, 1).blanks(), standing.answers(0), standing.answers(1), standing.is_short([0, 1])],
            [[0, 2, 2], [(), (0,)], [(1,)], False],
        )

    def test_second(self):
        self.assertEqual(self.raised(NoLine, Standing(Web.path(3), 2, [1, 0, 2]).after, 2, 2), 1)


class MadeStandingsTest(StandingCase):
    def test_attributes(self):
        web = Web.path(3)
        standing = Standing(web, 4, [0, 4, 2])
        self.assertTrue(standing.web == web)
        self.assertEqual([standing.lines, standing.blanks()], [4, [0, 4, 2]])
        self.assertEqual([standing.blank_of(page) for page in range(3)], [0, 4, 2])
        self.assertEqual(standing.used(), 6)

    def test_no_lines_and_many_lines(self):
        none = Standing(Web.path(2), 0, [0, 0])
        self.assertEqual([none.blanks(), none.used(), none.lines], [[0, 0], 0, 0])
        many = Standing(Web.path(2), 60, [60, 1])
        self.assertEqual([many.blanks(), many.used(), many.lines], [[60, 1], 59, 60])

    def test_wrong_length(self):
        web = Web.path(3)
        for blank in [[], [0], [1, 1], [1, 1, 1, 1], [9, 9], [-1, 0], [0, 0, 0, 9]]:
            self.assertIsNone(self.raised(InvalidStanding, Standing, web, 2, blank))

    def test_wrong_numbers(self):
        web = Web.path(3)
        rows = [([3, 0, 0], 0), ([0, 3, -1], 1), ([2, 2, -1], 2), ([-1, 3, 3], 0), ([1, -5, 9], 1), ([0, 0, 61], 2)]
        for blank, page in rows:
            self.assertEqual(self.raised(InvalidStanding, Standing, web, 2, blank), page)
        self.assertEqual(self.raised(InvalidStanding, Standing, Web(1, []), 0, [1]), 0)
        self.assertEqual(self.raised(InvalidStanding, Standing, Web(1, []), 60, [61]), 0)

    def test_fresh(self):
        for web in [Web(1, []), Web.ring(5), Web(200, [])]:
            for lines in [0, 1, 60]:
                fresh = Standing.fresh(web, lines)
                self.assertTrue(fresh == Standing(web, lines, [lines] * web.pages))
                self.assertEqual([fresh.used(), fresh.lines], [0, lines])

    def test_equal(self):
        standing = Standing(Web(3, [(0, 1), (1, 2)]), 2, [1, 0, 2])
        self.assertTrue(standing == Standing(Web(3, [(1, 2), (0, 1)]), 2, [1, 0, 2]))
        self.assertFalse(standing != Standing(Web.path(3), 2, [1, 0, 2]))

    def test_unequal(self):
        standing = Standing(Web.path(3), 2, [1, 0, 2])
        others = [Standing(Web.path(3), 2, [1, 0, 1]), Standing(Web.path(3), 3, [1, 0, 2]),
                  Standing(Web.ring(3), 2, [1, 0, 2]), Standing(Web.path(4), 2, [1, 0, 2, 0])]
        others += [[1, 0, 2], None, 2, Web.path(3), "standing"]
        for other in others:
            self.assertIs(standing == other, False)
            self.assertIs(other == standing, False)
            self.assertIs(standing != other, True)

    def test_no_page(self):
        standing = Standing.fresh(Web.path(3), 2)
        for page in [3, 4, 200, -1, -3]:
            for call in [standing.blank_of, standing.answers, standing.after]:
                self.assertEqual(self.raised(NoPage, call, page), page)


class ShortLotsTest(StandingCase):
    def test_small_webs(self):
        draw = drawn(3)
        for web in small_webs():
            for lines in [0, 1, 3]:
                standing = drawn_standing(draw, web, lines)
                for lot in all_lots(list(range(web.pages))):
                    self.assertIs(standing.is_short(lot), room(standing, lot) < 0)

    def test_just_enough(self):
        self.assertFalse(Standing(Web.ring(3), 2, [1, 1, 1]).is_short([0, 1, 2]))
        self.assertTrue(Standing(Web.ring(3), 2, [1, 0, 1]).is_short([0, 1, 2]))

    def test_empty_lot_and_duplicates(self):
        standing = Standing(Web.path(3), 2, [0, 1, 0])
        self.assertIs(standing.is_short([]), False)
        self.assertIs(standing.is_short([2, 1, 0, 1, 1, 1]), True)
        self.assertIs(standing.is_short([1, 0, 1, 0]), False)
        self.assertIs(Standing(Web.path(2), 0, [0, 0]).is_short([1, 1, 0]), True)
        self.assertIs(Standing(Web.path(2), 0, [0, 0]).is_short([1, 1]), False)

    def test_all_pages(self):
        web = Web.path(200)
        self.assertFalse(Standing(web, 1, [1] * 199 + [0]).is_short(list(range(200))))
        self.assertTrue(Standing(web, 1, [1] * 198 + [0, 0]).is_short(list(range(199, -1, -1))))

    def test_first_page_of_the_list_outside(self):
        standing = Standing.fresh(Web.path(3), 0)
        self.assertEqual(self.raised(NoPage, standing.is_short, [0, 1, 7, -1]), 7)
        self.assertEqual(self.raised(NoPage, standing.is_short, [-1, 7]), -1)
        self.assertEqual(self.raised(NoPage, standing.is_short, [3]), 3)


class UpdatesTest(StandingCase):
    def test_without_a_copy(self):
        standing = Standing(Web.path(3), 2, [1, 2, 0])
        self.assertEqual(standing.after(0).blanks(), [0, 2, 0])
        self.assertEqual(standing.after(1).blanks(), [1, 1, 0])
        self.assertEqual(self.raised(NoLine, standing.after, 2), 2)

    def test_updated_page_copied(self):
        standing = Standing(Web(3, [(0, 2), (1, 2), (2, 0)]), 3, [1, 2, 0])
        self.assertEqual(standing.after(2, 2).blanks(), [0, 1, 3])
        self.assertEqual(standing.after(1, 1).blanks(), [1, 3, 0])
        self.assertEqual(self.raised(NoLine, standing.after, 0, 0), 2)

    def test_holder_or_target_copied(self):
        standing = Standing(Web.path(3), 3, [2, 1, 1])
        self.assertEqual(standing.after(1, 0).blanks(), [3, 0, 1])
        self.assertEqual(self.raised(NoLine, standing.after, 1, 2), 1)
        self.assertEqual(standing.after(0, 1).blanks(), [0, 3, 1])

    def test_page_that_uses_more_than_one_line(self):
        star = Web(4, [(0, 1), (0, 2), (0, 3)])
        standing = Standing(star, 4, [4, 0, 0, 0])
        self.assertEqual(standing.after(0, 1, 2, 3).blanks(), [0, 4, 4, 4])
        self.assertEqual(standing.after(1, 1, 3).blanks(), [2, 4, 0, 4])
        low = Standing(star, 4, [3, 0, 0, 0])
        self.assertEqual(self.raised(NoLine, low.after, 0, 1, 2, 3), 0)
        self.assertEqual(low.after(2, 3, 2, 1).blanks(), [0, 4, 4, 4])

    def test_pages_that_point_to_one_another(self):
        standing = Standing(Web(2, [(0, 1), (1, 0)]), 2, [0, 0])
        self.assertEqual(standing.after(0, 0, 1).blanks(), [2, 2])
        self.assertEqual(self.raised(NoLine, standing.after, 0, 0), 1)
        self.assertEqual(self.raised(NoLine, standing.after, 1, 1), 0)
        self.assertEqual(self.raised(NoLine, standing.after, 0), 0)

    def test_copied_pages_twice(self):
        standing = Standing(Web.path(3), 2, [1, 1, 0])
        self.assertTrue(standing.after(2, 2, 2) == standing.after(2, 2))
        self.assertTrue(standing.after(1, 2, 1, 2, 1) == standing.after(1, 1, 2))
        self.assertEqual(standing.after(1, 2, 1).blanks(), [0, 2, 2])

    def test_no_page_first(self):
        standing = Standing(Web.path(3), 2, [0, 0, 0])
        self.assertEqual(self.raised(NoPage, standing.after, 5, 9, -1), 5)
        self.assertEqual(self.raised(NoPage, standing.after, -1, 3), -1)
        self.assertEqual(self.raised(NoPage, standing.after, 0, 1, 8, -1), 8)
        self.assertEqual(self.raised(NoPage, standing.after, 0, -1, 8), -1)
        self.assertEqual(self.raised(NoPage, standing.after, 0, 0, 3), 3)

    def test_least_page_without_lines(self):
        web = Web(4, [(3, 0), (2, 0), (1, 0)])
        self.assertEqual(self.raised(NoLine, Standing(web, 2, [0, 0, 0, 0]).after, 0, 0), 1)
        self.assertEqual(self.raised(NoLine, Standing(web, 2, [0, 1, 0, 0]).after, 0, 0), 2)
        self.assertEqual(self.raised(NoLine, Standing(web, 2, [0, 1, 1, 0]).after, 0, 0), 3)
        self.assertEqual(self.raised(NoLine, Standing(web, 2, [0, 1, 1, 1]).after, 3, 0), 3)

    def test_all_small_updates(self):
        draw = drawn(4)
        for web in small_webs():
            lots = [tuple(lot) for lot in all_lots(list(range(web.pages)))]
            for lines in [0, 1, 2, 4]:
                standing = drawn_standing(draw, web, lines)
                for page in range(web.pages):
                    for copied in lots:
                        self.check_after(standing, page, copied)

    def test_all_standings_of_a_path(self):
        for standing in all_standings(Web.path(3), 2):
            for page in range(3):
                for copied in [(), (0,), (1,), (2,), (2, 0), (1, 2, 1)]:
                    self.check_after(standing, page, copied)

    def test_no_lines_at_all(self):
        standing = Standing(Web.path(2), 0, [0, 0])
        self.assertEqual(standing.after(0, 0).blanks(), [0, 0])
        self.assertEqual([standing.answers(0), standing.answers(1)], [[(0,)], []])

    def test_large_web(self):
        draw = drawn(5)
        web = drawn_web(draw, 200, 4000)
        standing = Standing(web, 60, [draw.randint(20, 60) for _ in range(200)])
        for _ in range(20):
            self.check_after(standing, draw.randrange(200), draw.sample(range(200), draw.randint(0, 6)))

    def test_others_stay(self):
        first = Standing(Web.path(3), 2, [2, 2, 2])
        second = first.after(1)
        third = second.after(2, 2)
        fourth = second.after(0)
        self.assertEqual([first.blanks(), second.blanks(), third.blanks(), fourth.blanks()],
                         [[2, 2, 2], [2, 1, 2], [2, 0, 2], [1, 1, 2]])


class AnswersTest(StandingCase):
    def plain_answers(self, standing, page):
        possible = [()] + [(target,) for target in range(standing.web.pages)]
        return [answer for answer in possible if isinstance(plain_after(standing, page, answer), list)]

    def test_small_webs(self):
        draw = drawn(6)
        for web in small_webs():
            for lines in [0, 1, 2, 5]:
                standing = drawn_standing(draw, web, lines)
                for page in range(web.pages):
                    self.assertEqual(standing.answers(page), self.plain_answers(standing, page))

    def test_order(self):
        self.assertEqual(Standing.fresh(Web(3, [(0, 1)]), 2).answers(2), [(), (0,), (1,), (2,)])
        many = Standing.fresh(Web(12, []), 1)
        self.assertEqual(many.answers(11), [()] + [(page,) for page in range(12)])

    def test_no_answer(self):
        self.assertEqual(Standing(Web.path(3), 2, [0, 0, 2]).answers(1), [])
        self.assertEqual(Standing(Web.path(3), 2, [2, 0, 0]).answers(2), [])

    def test_updated_page_needs_two_lines(self):
        self.assertEqual(Standing(Web.path(2), 2, [1, 1]).answers(0), [(), (0,)])
        self.assertEqual(Standing(Web.path(2), 2, [2, 1]).answers(0), [(), (0,), (1,)])

    def test_large_web(self):
        every = Web(200, [(a, b) for a in range(200) for b in range(200) if a != b])
        standing = Standing(every, 60, [1] * 199 + [0])
        self.assertEqual(standing.answers(199), [(199,)])
        self.assertEqual(standing.answers(0), [()])


class CopiesTest(StandingCase):
    def test_lists(self):
        blank = [1, 0, 2]
        standing = Standing(Web.path(3), 2, blank)
        blank[0] = 0
        standing.blanks()[1] = 2
        standing.answers(0).clear()
        lot = [1, 0, 1]
        standing.is_short(lot)
        self.assertEqual([standing.blanks(), standing.used(), lot], [[1, 0, 2], 3, [1, 0, 1]])
        self.assertEqual(standing.answers(0), [(), (0,)])

    def test_refused_update(self):
        standing = Standing(Web.path(3), 2, [1, 0, 2])
        self.raised(NoLine, standing.after, 2, 2)
        self.raised(NoPage, standing.after, 2, 3)
        self.assertEqual([standing.blanks(), standing.lines, standing.web.arrows()], [[1, 0, 2], 2, [(0, 1), (1, 2)]])


if __name__ == "__main__":
    unittest.main()
