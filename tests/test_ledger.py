"""Points 17 to 21 and the interface of onecopy.ledger."""

import unittest

from onecopy.errors import (
    InvalidStanding, NoLine, NoPage, NoPointer, NoRoom, PageTaken, PointerTaken, StillPointed, TooFewLines,
)
from onecopy.ledger import Ledger
from onecopy.standings import Standing
from onecopy.webs import Web
from tests.helpers import (
    drawn, drawn_forest, drawn_web, greatest_degree, has_dealing, is_dealing_plainly, matches_all, room, row_webs,
    tight_standing,
)


def told(ledger):
    """All that a ledger tells of itself."""
    return (ledger.lines, ledger.page_list(), ledger.arrows(), [ledger.blank_of(page) for page in ledger.page_list()],
            [ledger.owner_of(*arrow) for arrow in ledger.arrows()])


def ledger_of(standing):
    """A ledger with the pages, pointers and blank lines of a standing."""
    ledger = Ledger(standing.lines)
    for page, blank in enumerate(standing.blanks()):
        ledger.enter_page(page, blank)
    for holder, target in standing.web.arrows():
        ledger.set_pointer(holder, target)
    return ledger


class LedgerCase(unittest.TestCase):
    def refused(self, error, ledger, name, *arguments):
        """The error of a refused call, which must not change the ledger."""
        before = told(ledger)
        with self.assertRaises(error) as caught:
            getattr(ledger, name)(*arguments)
        self.assertEqual(told(ledger), before)
        return caught.exception

    def check(self, ledger):
        """The owners are a dealing, and all that the ledger tells fits together."""
        pages, arrows = ledger.page_list(), ledger.arrows()
        self.assertEqual(pages, sorted(set(pages)))
        self.assertEqual(arrows, sorted(set(arrows)))
        standing = ledger.as_standing()
        self.assertEqual(standing.lines, ledger.lines)
        self.assertEqual(standing.blanks(), [ledger.blank_of(page) for page in pages])
        index_of = {page: index for index, page in enumerate(pages)}
        self.assertEqual(standing.web.arrows(), [(index_of[holder], index_of[target]) for holder, target in arrows])
        owners = [index_of[ledger.owner_of(*arrow)] for arrow in arrows]
        self.assertTrue(is_dealing_plainly(standing, owners))
        self.assertLessEqual(greatest_degree(standing.web), ledger.lines)
        return standing

    def check_update(self, ledger, page):
        """Point 18 for one update. Returns the answer."""
        before = self.check(ledger)
        index_of = {other: index for index, other in enumerate(ledger.page_list())}
        answer = ledger.use_line(page)
        self.assertIsInstance(answer, tuple)
        self.assertLessEqual(len(answer), 1)
        after = before.after(index_of[page], *[index_of[copied] for copied in answer])
        self.assertTrue(self.check(ledger) == after)
        try:
            stays = has_dealing(before.after(index_of[page]))
        except NoLine:
            stays = False
        self.assertIs(answer == (), stays)
        return answer


class PagesTest(LedgerCase):
    def test_empty_ledger(self):
        for lines in [0, 1, 60]:
            ledger = Ledger(lines)
            self.assertEqual([ledger.lines, ledger.page_list(), ledger.arrows()], [lines, [], []])

    def test_pages_of_any_size_in_any_order(self):
        ledger = Ledger(3)
        for page in [70, 0, 10 ** 30, 5]:
            ledger.enter_page(page)
        self.assertEqual(ledger.page_list(), [0, 5, 70, 10 ** 30])
        ledger.set_pointer(10 ** 30, 5)
        ledger.set_pointer(70, 0)
        self.assertEqual(ledger.arrows(), [(70, 0), (10 ** 30, 5)])
        standing = self.check(ledger)
        self.assertTrue(standing == Standing.fresh(Web(4, [(3, 1), (2, 0)]), 3))

    def test_numbers_of_blank_lines(self):
        ledger = Ledger(4)
        ledger.enter_page(0)
        ledger.enter_page(1, None)
        ledger.enter_page(2, 0)
        ledger.enter_page(3, 4)
        ledger.enter_page(4, blank=2)
        self.assertEqual([ledger.blank_of(page) for page in range(5)], [4, 4, 0, 4, 2])

    def test_enter_errors(self):
        ledger = Ledger(2)
        ledger.enter_page(7, 1)
        for blank in [None, 0, 2, 3, -1]:
            self.assertEqual(self.refused(PageTaken, ledger, "enter_page", 7, blank).page, 7)
        for blank in [3, -1, 61]:
            self.assertEqual(self.refused(InvalidStanding, ledger, "enter_page", 8, blank).page, 8)
        ledger.enter_page(8, 2)
        self.assertEqual(self.refused(InvalidStanding, Ledger(0), "enter_page", 3, 1).page, 3)

    def test_leave(self):
        ledger = Ledger(2)
        for page in [4, 2, 9]:
            ledger.enter_page(page, 1)
        ledger.set_pointer(4, 2)
        self.assertEqual(self.refused(NoPage, ledger, "leave_page", 3).page, 3)
        self.assertEqual(self.refused(StillPointed, ledger, "leave_page", 4).page, 4)
        self.assertEqual(self.refused(StillPointed, ledger, "leave_page", 2).page, 2)
        ledger.leave_page(9)
        self.assertEqual(ledger.page_list(), [2, 4])
        self.assertEqual(self.refused(NoPage, ledger, "leave_page", 9).page, 9)
        ledger.drop_pointer(4, 2)
        ledger.leave_page(4)
        ledger.enter_page(4)
        self.assertEqual([ledger.page_list(), ledger.blank_of(4)], [[2, 4], 2])

    def test_no_page(self):
        ledger = ledger_of(Standing.fresh(Web.path(3), 2))
        for page in [3, -1, 200]:
            for name in ["leave_page", "use_line", "blank_of"]:
                self.assertEqual(self.refused(NoPage, ledger, name, page).page, page)


class PointersTest(LedgerCase):
    def test_set_and_drop(self):
        ledger = Ledger(2)
        for page in [3, 8]:
            ledger.enter_page(page)
        ledger.set_pointer(8, 3)
        ledger.set_pointer(3, 8)
        self.assertEqual(ledger.arrows(), [(3, 8), (8, 3)])
        self.check(ledger)
        ledger.drop_pointer(8, 3)
        self.assertEqual(ledger.arrows(), [(3, 8)])
        self.assertEqual([ledger.blank_of(3), ledger.blank_of(8)], [2, 2])
        self.check(ledger)

    def test_owner_of(self):
        ledger = ledger_of(Standing(Web.path(3), 2, [0, 1, 1]))
        self.assertEqual([ledger.owner_of(0, 1), ledger.owner_of(1, 2)], [1, 2])
        self.assertIn(ledger_of(Standing(Web.path(2), 1, [1, 1])).owner_of(0, 1), [0, 1])

    def test_no_pointer(self):
        ledger = ledger_of(Standing.fresh(Web.path(3), 2))
        for name in ["drop_pointer", "owner_of"]:
            for holder, target in [(1, 0), (0, 2), (0, 0), (7, 1), (0, 9), (-1, 0)]:
                error = self.refused(NoPointer, ledger, name, holder, target)
                self.assertEqual([error.holder, error.target], [holder, target])

    def test_errors_of_set_pointer_in_order(self):
        ledger = Ledger(2)
        for page in range(5):
            ledger.enter_page(page, 0 if page == 4 else 2)
        for holder, target in [(0, 1), (1, 2), (2, 3)]:
            ledger.set_pointer(holder, target)
        self.assertEqual(self.refused(NoPage, ledger, "set_pointer", 9, 8).page, 9)
        self.assertEqual(self.refused(NoPage, ledger, "set_pointer", 9, 9).page, 9)
        self.assertEqual(self.refused(NoPage, ledger, "set_pointer", 1, -1).page, -1)
        for holder, target in [(1, 1), (0, 0), (0, 1), (1, 2)]:
            error = self.refused(PointerTaken, ledger, "set_pointer", holder, target)
            self.assertEqual([error.holder, error.target], [holder, target])

    def test_too_few_lines_for_the_holder_first(self):
        ledger = ledger_of(Standing.fresh(Web(6, [(0, 1), (1, 2), (2, 3)]), 2))
        self.assertEqual(self.refused(TooFewLines, ledger, "set_pointer", 1, 4).page, 1)
        self.assertEqual(self.refused(TooFewLines, ledger, "set_pointer", 2, 1).page, 2)
        self.assertEqual(self.refused(TooFewLines, ledger, "set_pointer", 1, 0).page, 1)
        self.assertEqual(self.refused(TooFewLines, ledger, "set_pointer", 4, 2).page, 2)
        self.assertEqual(self.refused(TooFewLines, ledger_of(Standing.fresh(Web(2, []), 0)), "set_pointer", 1, 0).page, 1)
        ledger.set_pointer(3, 0)
        self.assertEqual(ledger.arrows(), [(0, 1), (1, 2), (2, 3), (3, 0)])

    def test_too_few_lines_ahead_of_no_room(self):
        ledger = ledger_of(Standing(Web.path(3), 2, [0, 2, 0]))
        self.assertEqual(self.refused(TooFewLines, ledger, "set_pointer", 2, 1).page, 1)
        self.no_room(ledger, 2, 0)

    def no_room(self, ledger, holder, target):
        """The lot of a NoRoom, which must have both ends and no line to spare."""
        lot = self.refused(NoRoom, ledger, "set_pointer", holder, target).lot
        self.assertEqual(lot, sorted(set(lot)))
        self.assertTrue(holder in lot and target in lot)
        arrows = [arrow for arrow in ledger.arrows() if arrow[0] in lot and arrow[1] in lot]
        self.assertEqual(sum(ledger.blank_of(page) for page in lot), len(arrows))

    def test_no_room(self):
        ledger = Ledger(2)
        ledger.enter_page(3, 0)
        ledger.enter_page(5, 0)
        self.no_room(ledger, 5, 3)
        ledger.enter_page(9, 1)
        ledger.set_pointer(9, 5)
        self.no_room(ledger, 5, 9)
        self.no_room(ledger, 3, 9)
        ledger.drop_pointer(9, 5)
        ledger.set_pointer(3, 9)
        self.check(ledger)

    def test_succeeds_exactly_if_there_is_a_dealing(self):
        draw = drawn(51)
        for _ in range(150):
            pages = draw.randint(2, 7)
            web = drawn_web(draw, pages, draw.randint(1, 12))
            lines = max(1, greatest_degree(web)) + draw.randint(0, 1)
            blank = [min(lines, draw.choice([0, 0, 1, 1, 2, 3])) for _ in range(pages)]
            ledger = Ledger(lines)
            for page in range(pages):
                ledger.enter_page(page, blank[page])
            for holder, target in draw.sample(web.arrows(), len(web.arrows())):
                wanted = Standing(Web(pages, ledger.arrows() + [(holder, target)]), lines, blank)
                if matches_all(wanted, list(range(pages))):
                    ledger.set_pointer(holder, target)
                else:
                    self.no_room(ledger, holder, target)
                self.check(ledger)
            self.assertEqual([ledger.blank_of(page) for page in range(pages)], blank)

    def test_dropped_line_is_free_again(self):
        ledger = ledger_of(Standing(Web.path(3), 2, [0, 1, 1]))
        self.no_room(ledger, 2, 0)
        ledger.drop_pointer(0, 1)
        ledger.set_pointer(2, 0)
        self.check(ledger)
        self.no_room(ledger, 0, 1)


class StandingsTest(LedgerCase):
    def test_as_standing_stays(self):
        ledger = ledger_of(Standing.fresh(Web.path(3), 2))
        first = ledger.as_standing()
        ledger.use_line(1)
        second = ledger.as_standing()
        ledger.enter_page(9)
        ledger.set_pointer(9, 0)
        ledger.drop_pointer(0, 1)
        self.assertTrue(first == Standing.fresh(Web.path(3), 2))
        self.assertTrue(second == Standing(Web.path(3), 2, [2, 1, 2]))
        self.assertTrue(ledger.as_standing() == Standing(Web(4, [(1, 2), (3, 0)]), 2, [2, 1, 2, 2]))

    def test_one_and_200_pages(self):
        ledger = Ledger(1)
        ledger.enter_page(44, 0)
        self.assertTrue(ledger.as_standing() == Standing(Web(1, []), 1, [0]))
        self.check(ledger_of(Standing.fresh(Web.path(200), 2)))

    def test_lists_are_new(self):
        ledger = ledger_of(Standing.fresh(Web.path(3), 2))
        before = told(ledger)
        ledger.page_list().clear()
        ledger.arrows().clear()
        ledger.as_standing().blanks().clear()
        self.assertEqual(told(ledger), before)


class UpdatesTest(LedgerCase):
    def test_without_pointers(self):
        ledger = Ledger(2)
        ledger.enter_page(5)
        self.assertEqual([self.check_update(ledger, 5) for _ in range(4)], [(), (), (5,), ()])
        none = ledger_of(Standing.fresh(Web(2, []), 0))
        self.assertEqual([none.use_line(1), none.use_line(0), none.use_line(1)], [(1,), (0,), (1,)])

    def test_page_without_a_blank_line_is_copied(self):
        ledger = ledger_of(Standing(Web.path(3), 2, [1, 0, 1]))
        self.assertEqual(self.check_update(ledger, 1), (1,))
        self.assertEqual(ledger.as_standing().blanks(), [0, 2, 1])

    def test_owners_change_instead_of_a_copy(self):
        ledger = ledger_of(Standing(Web.path(3), 2, [1, 1, 1]))
        self.assertEqual(self.check_update(ledger, 1), ())
        self.assertEqual([ledger.owner_of(0, 1), ledger.owner_of(1, 2)], [0, 2])

    def test_walk_to_the_holders(self):
        ledger = ledger_of(Standing(Web.path(4), 2, [1, 1, 1, 0]))
        self.assertEqual(self.check_update(ledger, 0), (0,))
        self.assertEqual(ledger.as_standing().blanks(), [2, 1, 1, 0])
        other = ledger_of(Standing(Web.path(4), 2, [0, 1, 1, 1]))
        self.assertEqual(self.check_update(other, 3), (0,))
        self.assertEqual(other.as_standing().blanks(), [2, 1, 1, 0])

    def test_all_small_standings(self):
        for web in [Web.path(3), Web.ring(3), Web.ring(2), Web(3, [(0, 1), (1, 0), (2, 1)]),
                    Web(3, [(0, 2), (1, 2), (0, 1)])]:
            lines = greatest_degree(web)
            for code in range((lines + 1) ** web.pages):
                blank = [code // (lines + 1) ** page % (lines + 1) for page in range(web.pages)]
                standing = Standing(web, lines, blank)
                for page in range(web.pages) if has_dealing(standing) else []:
                    ledger = ledger_of(standing)
                    for other in [page, 0, page, web.pages - 1]:
                        self.check_update(ledger, other)

    def test_changing_web(self):
        draw = drawn(52)
        for lines in [1, 2, 4, 9]:
            ledger = Ledger(lines)
            ledger.enter_page(3)
            for _ in range(500):
                self.change(draw, ledger)
                self.check_update(ledger, draw.choice(ledger.page_list()))

    def change(self, draw, ledger):
        """Any call that changes the web; it may be refused."""
        pages = ledger.page_list()
        one, other = draw.choice(pages), draw.choice(pages)
        name, *arguments = draw.choice([
            ("enter_page", draw.randint(0, 12)), ("enter_page", draw.randint(0, 12), draw.randint(0, ledger.lines)),
            ("set_pointer", one, other), ("set_pointer", one, other), ("set_pointer", one, other),
            ("drop_pointer", *draw.choice(ledger.arrows() or [(0, 1)])), ("leave_page", one),
        ])
        if name == "leave_page" and len(pages) == 1:
            return
        before = told(ledger)
        try:
            getattr(ledger, name)(*arguments)
        except (PageTaken, PointerTaken, TooFewLines, NoPointer, StillPointed):
            self.assertEqual(told(ledger), before)
        except NoRoom as error:
            self.assertEqual(told(ledger), before)
            self.assertTrue(one in error.lot and other in error.lot)


class LongRowsTest(LedgerCase):
    def row(self, ledger, updates, choose):
        """A long row of updates. Returns the number of copies."""
        return sum(len(self.check_update(ledger, choose(ledger))) for _ in range(updates))

    def choices(self, web):
        """Always one page, the page with the fewest blank lines, drawn pages."""
        draw = drawn(54)
        return [
            lambda ledger: 0, lambda ledger: web.pages - 1, lambda ledger: web.pages // 2,
            lambda ledger: min(ledger.page_list(), key=ledger.blank_of), lambda ledger: draw.choice(ledger.page_list()),
        ]

    def test_as_many_lines_as_the_greatest_degree(self):
        for web in row_webs():
            lines = greatest_degree(web)
            for choose in self.choices(web):
                copies = self.row(ledger_of(Standing.fresh(web, lines)), 120, choose)
                self.assertLessEqual(copies, 120)

    def test_number_of_copies(self):
        draw = drawn(55)
        for web in row_webs():
            degree = greatest_degree(web)
            for lines in [degree, degree + 1, degree + 5]:
                tight = Standing(web, lines, tight_standing(draw, web).blanks())
                for start in [Standing.fresh(web, lines), tight]:
                    for choose in self.choices(web):
                        copies = self.row(ledger_of(start), 40, choose)
                        self.assertLessEqual(copies, (40 + start.used()) // (lines + 1 - degree))

    def test_large_webs(self):
        draw = drawn(56)
        for web in [Web.path(200), Web.ring(200), drawn_web(draw, 200, 500), drawn_forest(draw, 200)]:
            ledger = ledger_of(Standing.fresh(web, greatest_degree(web)))
            for _ in range(300):
                ledger.use_line(draw.randrange(200))
            for _ in range(12):
                self.check_update(ledger, draw.randrange(200))
            for _ in range(12):
                self.check_update(ledger, min(ledger.page_list(), key=ledger.blank_of))

    def test_many_pages(self):
        ledger = Ledger(3)
        for page in range(2000):
            ledger.enter_page(page)
        for page in range(1, 2000):
            ledger.set_pointer((page - 1) // 2, page)
        draw = drawn(57)
        pages = [draw.randrange(2000) for _ in range(3000)]
        answers = [ledger.use_line(page) for page in pages]
        self.assertLessEqual(sum(len(answer) for answer in answers), 3000)
        owned = {}
        for holder, target in ledger.arrows():
            owner = ledger.owner_of(holder, target)
            self.assertIn(owner, [holder, target])
            owned[owner] = owned.get(owner, 0) + 1
        for page in range(2000):
            self.assertLessEqual(owned.get(page, 0), ledger.blank_of(page))

    def test_as_standing_of_a_tight_one(self):
        draw = drawn(58)
        web = drawn_web(draw, 8, 20)
        tight = tight_standing(draw, web)
        standing = Standing(web, max(tight.lines, greatest_degree(web)), tight.blanks())
        ledger = ledger_of(standing)
        self.assertTrue(ledger.as_standing() == standing)
        self.assertEqual(room(standing, list(range(8))), 0)
        self.check_update(ledger, 3)


if __name__ == "__main__":
    unittest.main()
