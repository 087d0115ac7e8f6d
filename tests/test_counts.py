"""Point 16 and the interface of onecopy.counts."""

import unittest

from onecopy.counts import count_dealable, nth_dealable, rank_of
from onecopy.dealings import deal
from onecopy.errors import HasRing, NoIndex, ShortLot
from onecopy.standings import Standing
from onecopy.webs import Web
from tests.helpers import all_standings, drawn, drawn_forest, drawn_standing, has_short, tight_standing, two_way_star

SMALL = [
    (Web(1, []), [0, 1, 3]), (Web(3, []), [0, 1, 2]), (Web.path(2), [0, 1, 2, 5]), (Web.ring(2), [0, 1, 2, 4]),
    (Web.path(4), [0, 1, 2]), (Web.path(3, two_way=True), [0, 1, 3]), (Web(3, [(1, 2), (2, 1), (0, 2)]), [2, 3]),
    (Web(4, [(3, 0), (1, 2), (2, 1)]), [1, 2]), (Web.of_parents([2, 2, None, 0]), [1, 2]),
    (two_way_star(3), [1, 2]), (Web(5, [(4, 1), (3, 4), (0, 4), (4, 0)]), [1, 2]), (Web(5, [(0, 4), (2, 3)]), [1]),
]


def dealable(standing):
    try:
        deal(standing)
    except ShortLot:
        return False
    return True


def large_forests():
    draw = drawn(41)
    return [
        Web.path(200), Web.path(200, two_way=True), two_way_star(199), Web(200, []),
        Web.of_parents([page + 1 for page in range(199)] + [None]), drawn_forest(draw, 200),
        drawn_forest(draw, 200, cut=0), drawn_forest(draw, 200, two_way=1, cut=0.02),
    ]


class CountsCase(unittest.TestCase):
    def no_index(self, web, lines, index):
        with self.assertRaises(NoIndex) as caught:
            nth_dealable(web, lines, index)
        self.assertEqual(caught.exception.index, index)


class ExamplesTest(CountsCase):
    def test_first(self):
        path = Web.path(2)
        self.assertEqual(
            [count_dealable(path, 2), nth_dealable(path, 2, 0).blanks(), rank_of(nth_dealable(path, 2, 7))],
            [8, [0, 1], 7],
        )


class SmallForestsTest(CountsCase):
    def test_against_a_plain_list(self):
        for web, many_lines in SMALL:
            for lines in many_lines:
                every = all_standings(web, lines)
                right = [each for each in every if not has_short(each, list(range(web.pages)))]
                self.assertEqual(count_dealable(web, lines), len(right))
                for index, standing in enumerate(right):
                    found = nth_dealable(web, lines, index)
                    self.assertTrue(found == standing)
                    self.assertEqual(rank_of(standing), index)
                for index in [-1, -2, len(right), len(right) + 1, 10 ** 30]:
                    self.no_index(web, lines, index)

    def test_rank_of_every_standing(self):
        for web, many_lines in SMALL:
            for lines in many_lines[:2]:
                before = 0
                for standing in all_standings(web, lines):
                    self.assertEqual(rank_of(standing), before)
                    if dealable(standing):
                        before += 1

    def test_no_lines(self):
        self.assertEqual(count_dealable(Web(5, []), 0), 1)
        self.assertEqual(nth_dealable(Web(5, []), 0, 0).blanks(), [0, 0, 0, 0, 0])
        self.assertEqual(rank_of(Standing.fresh(Web(5, []), 0)), 0)
        for web in [Web.path(2), Web.ring(2), Web.path(200), two_way_star(5)]:
            self.assertEqual([count_dealable(web, 0), rank_of(Standing.fresh(web, 0))], [0, 0])
            self.no_index(web, 0, 0)

    def test_one_line(self):
        self.assertEqual(count_dealable(Web.path(2, two_way=True), 1), 1)
        self.assertEqual(count_dealable(Web.path(3, two_way=True), 1), 0)
        self.no_index(Web.path(3, two_way=True), 1, 0)


class PathsTest(CountsCase):
    def test_recurrence(self):
        for lines in [1, 2, 7, 60]:
            counts = [1, lines + 1]
            for pages in range(2, 201):
                counts.append((lines + 1) * counts[-1] - counts[-2])
            for pages in [1, 2, 3, 4, 10, 57, 100, 199, 200]:
                self.assertEqual(count_dealable(Web.path(pages), lines), counts[pages])

    def test_the_numbering_does_not_matter(self):
        draw = drawn(42)
        names = list(range(200))
        draw.shuffle(names)
        web = Web(200, [(names[at], names[at + 1]) for at in range(199)])
        self.assertEqual(count_dealable(web, 60), count_dealable(Web.path(200), 60))


class LargeForestsTest(CountsCase):
    def test_first_and_last_index(self):
        for web in large_forests():
            many = count_dealable(web, 60)
            self.assertGreater(many, 10 ** 300)
            self.assertEqual(rank_of(nth_dealable(web, 60, 0)), 0)
            last = nth_dealable(web, 60, many - 1)
            self.assertTrue(last == Standing.fresh(web, 60))
            self.assertEqual(rank_of(last), many - 1)
            for index in [-1, many, many + 1, 2 * many]:
                self.no_index(web, 60, index)

    def test_drawn_indexes(self):
        draw = drawn(43)
        for web in large_forests():
            index = draw.randrange(count_dealable(web, 60))
            standing = nth_dealable(web, 60, index)
            self.assertTrue(dealable(standing) and standing.web == web and standing.lines == 60)
            self.assertEqual(rank_of(standing), index)
            self.assertGreater(nth_dealable(web, 60, index + 1).blanks(), standing.blanks())

    def test_tight_standings(self):
        draw = drawn(44)
        for web in large_forests():
            tight = tight_standing(draw, web)
            self.assertTrue(nth_dealable(web, tight.lines, rank_of(tight)) == tight)

    def test_rank_without_a_dealing(self):
        draw = drawn(45)
        for web in large_forests():
            if web.arrows():
                self.check_rank_without(draw, web)

    def check_rank_without(self, draw, web):
        """The rank of a standing without a dealing lies between its neighbours that have one."""
        holder, target = draw.choice(web.arrows())
        blank = drawn_standing(draw, web, 60).blanks()
        blank[holder] = blank[target] = 0
        standing = Standing(web, 60, blank)
        rank = rank_of(standing)
        self.assertFalse(dealable(standing))
        self.assertGreater(nth_dealable(web, 60, rank).blanks(), blank)
        if rank > 0:
            self.assertLess(nth_dealable(web, 60, rank - 1).blanks(), blank)


class RingsTest(CountsCase):
    def test_has_ring_first(self):
        web = Web(7, [(0, 1), (6, 2), (2, 5), (5, 6), (3, 4)])
        calls = [(count_dealable, web, 2), (rank_of, Standing.fresh(web, 2)), (nth_dealable, web, 2, 0),
                 (nth_dealable, web, 2, -1), (nth_dealable, web, 0, 10 ** 9)]
        for call, *arguments in calls:
            with self.assertRaises(HasRing) as caught:
                call(*arguments)
            self.assertEqual(caught.exception.page, 2)


class ArgumentsTest(CountsCase):
    def test_arguments_stay(self):
        standing = Standing(Web.path(3), 2, [1, 0, 2])
        before = rank_of(standing)
        nth_dealable(standing.web, 2, 1).blanks().clear()
        self.assertEqual([standing.blanks(), rank_of(standing)], [[1, 0, 2], before])


if __name__ == "__main__":
    unittest.main()
