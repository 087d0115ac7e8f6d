"""Points 64 and 65 and the interface of onecopy.audit."""

import unittest

from onecopy.audit import judge_log, least_start
from onecopy.errors import NoStart
from onecopy.keeper import Recorder
from onecopy.standings import Standing
from onecopy.webs import Web
from tests.helpers import all_standings, drawn, drawn_standing, drawn_web, greatest_degree, row_webs, small_webs


def plain_judgement(standing, rows, copies):
    """Points 7 and 64, one pointer at a time."""
    web, blank = standing.web, standing.blanks()
    for index, (page, answer) in enumerate(rows):
        if any(at < 0 or at >= web.pages for at in [page, *answer]):
            return index, "page", blank
        if list(answer) != sorted(set(answer)) or len(answer) > copies:
            return index, "answer", blank
        after = list(blank)
        if page not in answer:
            after[page] -= 1
        for holder, target in web.arrows():
            if target in answer and holder not in answer:
                after[holder] -= 1
        if any(after[at] < 0 for at in range(web.pages) if at not in answer):
            return index, "line", blank
        blank = [standing.lines if at in answer else after[at] for at in range(web.pages)]
    return None, None, blank


def drawn_rows(draw, web, copies, length, wrong):
    """Rows that are wrong with some probability."""
    rows = []
    for _ in range(length):
        page = draw.randrange(web.pages)
        count = draw.choice([0, 0, 1, draw.randint(0, min(copies, web.pages))])
        answer = sorted(draw.sample(range(web.pages), min(count, web.pages)))
        if draw.random() < wrong:
            page = draw.choice([page, page, -1, web.pages])
            answer = draw.choice([answer[::-1], answer + answer[-1:], answer + [web.pages], [-1] + answer,
                                  list(range(min(copies + 1, web.pages)))])
        rows.append((page, tuple(answer)))
    return rows


class AuditCase(unittest.TestCase):
    def refused(self, error, call, *arguments, **more):
        with self.assertRaises(error) as caught:
            call(*arguments, **more)
        return caught.exception

    def check_log(self, standing, rows, copies):
        expected = plain_judgement(standing, rows, copies)
        before = [(page, answer) for page, answer in rows]
        found = judge_log(standing, rows, copies=copies)
        self.assertIsInstance(found, tuple)
        self.assertIsInstance(found[2], Standing)
        self.assertTrue(found[2] == Standing(standing.web, standing.lines, expected[2]))
        self.assertEqual([found[:2], rows], [expected[:2], before])
        return expected


class ExamplesTest(AuditCase):
    def test_example(self):
        rows = [(1, ()), (1, (1,)), (0, ()), (1, (0, 1))]
        result = judge_log(Standing.fresh(Web.path(2), 2), rows)
        self.assertEqual(
            [result[0], result[1], result[2].blanks(), least_start(Web.path(2), 2, rows[:3]).blanks()],
            [3, "answer", [0, 2], [2, 1]])


class JudgedTest(AuditCase):
    def check(self, standing, rows, index, reason, blank, copies=1):
        found = judge_log(standing, rows, copies=copies)
        self.assertEqual([*found[:2], found[2].blanks()], [index, reason, blank])

    def test_empty_log(self):
        standing = Standing(Web.path(3), 2, [0, 1, 2])
        self.check(standing, [], None, None, [0, 1, 2])
        self.check(standing, [], None, None, [0, 1, 2], 3)

    def test_reasons_in_their_order(self):
        standing = Standing(Web.path(3), 2, [0, 1, 0])
        for row, reason in [
            ((3, ()), "page"), ((-1, ()), "page"), ((0, (3,)), "page"), ((0, (-1,)), "page"), ((1, (0, 9)), "page"),
            ((-1, (2, 1)), "page"), ((2, (1, 0, 7)), "page"), ((0, (2, 2, -3)), "page"), ((9, (1, 1)), "page"),
            ((1, (0, 1)), "answer"), ((2, (1, 0)), "answer"), ((2, (2, 2)), "answer"), ((0, (0, 1, 2)), "answer"),
            ((2, ()), "line"), ((0, (1,)), "line"), ((1, (2,)), "line"), ((0, ()), "line"), ((2, (0,)), "line"),
        ]:
            self.check(standing, [row], 0, reason, [0, 1, 0])
            if reason != "line":
                self.check(standing, [(0, (0,)), (1, ()), row, (0, ())], 2, reason, [2, 0, 0])
        self.check(standing, [(0, (0,)), (0, ()), (2, (2,))], None, None, [1, 0, 2])
        self.check(standing, [(0, (0,)), (0, ()), (2, (2,)), (1, ())], 3, "line", [1, 0, 2])

    def test_first_wrong_row_ends_the_reading(self):
        standing = Standing.fresh(Web.path(3), 1)
        self.check(standing, [(2, ()), (2, ()), (7, ()), (0, (1, 0))], 1, "line", [1, 1, 0])
        self.check(standing, [(2, ()), (0, (1, 0)), (7, ())], 1, "answer", [1, 1, 0])
        self.check(standing, [(7, ()), (2, ())], 0, "page", [1, 1, 1])

    def test_copies(self):
        standing = Standing(Web.path(4), 2, [2, 0, 0, 0])
        self.check(standing, [(3, (3,))], 0, "line", [2, 0, 0, 0])
        self.check(standing, [(3, (2, 3))], 0, "answer", [2, 0, 0, 0])
        self.check(standing, [(3, (2, 3))], 0, "line", [2, 0, 0, 0], 2)
        self.check(standing, [(3, (1, 2, 3))], 0, "answer", [2, 0, 0, 0], 2)
        self.check(standing, [(3, (1, 2, 3)), (0, ())], None, None, [0, 2, 2, 2], 3)
        self.check(standing, [(3, (3, 2, 1))], 0, "answer", [2, 0, 0, 0], 3)
        self.check(standing, [(3, (1, 2, 2))], 0, "answer", [2, 0, 0, 0], 3)

    def test_against_the_plain_way(self):
        draw, kinds = drawn(181), {}
        for web in [*small_webs(), drawn_web(draw, 12, 30), Web.path(40)]:
            for copies in [1, 2, 3]:
                for _ in range(25):
                    standing = drawn_standing(draw, web, draw.choice([0, 1, 2, 5, 60]))
                    rows = drawn_rows(draw, web, copies, draw.randint(0, 12), draw.choice([0, 0, 0.5]))
                    kind = self.check_log(standing, rows, copies)[1]
                    kinds[kind] = kinds.get(kind, 0) + 1
        self.assertEqual(set(kinds), {None, "page", "answer", "line"})
        self.assertGreater(min(kinds.values()), 50)

    def test_rows_of_a_recorder(self):
        draw = drawn(182)
        for web in row_webs():
            start = Standing.fresh(web, greatest_degree(web))
            recorder = Recorder(start)
            for _ in range(60):
                recorder.use_line(draw.randrange(web.pages))
            found = judge_log(start, recorder.rows())
            self.assertEqual(found[:2], (None, None))
            self.assertTrue(found[2] == recorder.standing)


class LeastStartTest(AuditCase):
    def is_legal(self, standing, rows, copies):
        return plain_judgement(standing, rows, copies)[0] is None

    def test_against_a_search_in_small_webs(self):
        draw, found, refused = drawn(183), 0, 0
        webs = [Web(1, []), Web.path(2), Web.path(3), Web.ring(3), Web.ring(2), Web.path(3, two_way=True), Web(3, [(0, 2)])]
        for web in webs:
            for lines in [0, 1, 2, 3]:
                for copies in [1, 2, 3]:
                    for _ in range(20):
                        rows = drawn_rows(draw, web, copies, draw.randint(0, 7), draw.choice([0, 0, 0.1]))
                        legal = [one.blanks() for one in all_standings(web, lines) if self.is_legal(one, rows, copies)]
                        fresh = plain_judgement(Standing.fresh(web, lines), rows, copies)
                        if fresh[0] is None:
                            found += 1
                            start = least_start(web, lines, rows, copies=copies)
                            self.assertTrue(start == Standing(web, lines, min(legal, key=sum)))
                            self.assertEqual(start.blanks(), [min(column) for column in zip(*legal)])
                        else:
                            refused += 1
                            self.assertEqual(legal, [])
                            error = self.refused(NoStart, least_start, web, lines, rows, copies=copies)
                            self.assertEqual(error.index, fresh[0])
        self.assertGreater(min(found, refused), 200)

    def test_empty_log(self):
        for web in small_webs():
            start = least_start(web, 5, [])
            self.assertTrue(start == Standing(web, 5, [0] * web.pages))

    def test_one_copy_unless_given(self):
        rows = [(2, (1, 2)), (0, ())]
        self.assertEqual(self.refused(NoStart, least_start, Web.path(3), 3, rows).index, 0)
        self.assertEqual(least_start(Web.path(3), 3, rows, copies=2).blanks(), [2, 0, 0])
        self.assertEqual(rows, [(2, (1, 2)), (0, ())])

    def test_no_start_has_the_index_of_the_fresh_standing(self):
        web = Web.path(2)
        for rows, index in [([(1, ())] * 3, 2), ([(0, ()), (2, ())], 1), ([(0, (1, 0))], 0), ([(0, (0, 1))], 0),
                            ([(1, (1,)), (1, (1,)), (1, (1,))], 2), ([(0, ()), (-1, ()), (9, ())], 1)]:
            self.assertEqual(self.refused(NoStart, least_start, web, 2, rows).index, index)

    def test_larger_webs(self):
        draw = drawn(184)
        for web in row_webs():
            recorder = Recorder(drawn_keepable(draw, web))
            start = recorder.standing
            for _ in range(80):
                recorder.use_line(draw.randrange(web.pages))
            least = least_start(web, start.lines, recorder.rows())
            self.assertTrue(all(few <= many for few, many in zip(least.blanks(), start.blanks())))
            self.assertEqual(judge_log(least, recorder.rows())[0], None)
            for page, number in enumerate(least.blanks()):
                if number > 0:
                    fewer = [one - (at == page) for at, one in enumerate(least.blanks())]
                    self.assertEqual(judge_log(Standing(web, start.lines, fewer), recorder.rows())[1], "line")


def drawn_keepable(draw, web):
    """A standing with a dealing, and more lines than the greatest degree."""
    blank = [0] * web.pages
    for arrow in web.arrows():
        blank[draw.choice(arrow)] += 1
    return Standing(web, greatest_degree(web) + 2, [number + draw.randint(0, 2) for number in blank])


if __name__ == "__main__":
    unittest.main()
