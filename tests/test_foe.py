"""Points 23 to 26 and the interface of onecopy.foe."""

import unittest

from onecopy.dealings import trim
from onecopy.errors import HasRing, NoLine, NoPage, NotShort, TooMany
from onecopy.foe import Foe, verdict
from onecopy.game import Game
from onecopy.keeper import Keeper
from onecopy.standings import Standing
from onecopy.webs import Web
from tests.helpers import (
    all_standings, drawn, drawn_forest, drawn_standing, drawn_web, greatest_degree, has_dealing, has_short,
    is_dealing_plainly, one_fewer, plain_trim, room, small_webs, tight_standing, two_way_star,
)


def every_page(web):
    return list(range(web.pages))


def arrows_within(web, lot):
    return [(holder, target) for holder, target in web.arrows() if holder in lot and target in lot]


def fits(web, lot):
    """Point 23 for a lot that is one part: a forest or a one-way ring."""
    arrows = arrows_within(web, lot)
    ties = {tuple(sorted(arrow)) for arrow in arrows}
    if len(ties) == len(lot) - 1:
        return True
    return len(lot) >= 3 and all(
        [page for page, _ in arrows].count(member) == [page for _, page in arrows].count(member) == 1
        for member in lot)


def is_one_way_tree(web, lot):
    """The lot has no ring, no page with two holders and no tie with two pointers."""
    arrows = arrows_within(web, lot)
    return (
        len({tuple(sorted(arrow)) for arrow in arrows}) == len(lot) - 1 == len(arrows)
        and all([target for _, target in arrows].count(page) < 2 for page in lot))


def with_others(draw, standing, pages, pointers):
    """The standing with further pages and pointers; its own pages keep their lines and the pointers within."""
    web = standing.web
    count = web.pages + pages
    names = draw.sample(range(count), count)
    arrows = {(names[holder], names[target]) for holder, target in web.arrows()}
    inside = set(names[:web.pages])
    for _ in range(pointers):
        holder, target = draw.randrange(count), draw.randrange(count)
        if holder != target and not (holder in inside and target in inside):
            arrows.add((holder, target))
    lines = max(standing.lines, draw.randint(0, 3))
    blank = [draw.randint(0, lines) for _ in range(count)]
    for page, number in enumerate(standing.blanks()):
        blank[names[page]] = number
    return Standing(Web(count, sorted(arrows)), lines, blank), sorted(inside)


def foe_after(standing, lot, replies):
    foe = Foe(standing, lot)
    for copied in replies:
        foe.take_reply(*copied)
    return foe


class FoeCase(unittest.TestCase):
    def refused(self, error, call, *arguments):
        with self.assertRaises(error) as caught:
            call(*arguments)
        return caught.exception

    def told(self, foe):
        return (foe.standing.blanks(), tuple(foe.present_lot()), foe.next_page(), foe.bound(), foe.has_won)

    def check(self, foe, trimming=plain_trim):
        """Point 24 for the present standing. Returns the legal replies."""
        standing, lot, bound, page = foe.standing, foe.present_lot(), foe.bound(), foe.next_page()
        self.assertEqual(lot, sorted(set(lot)))
        self.assertLess(room(standing, lot), 0)
        self.assertEqual(trimming(standing, lot), lot)
        self.assertIn(page, lot)
        self.assertIsInstance(bound, int)
        self.assertGreaterEqual(bound, 1)
        self.assertLessEqual(bound, 2 * (len(lot) - 1))
        if is_one_way_tree(standing.web, lot):
            self.assertLessEqual(bound, len(lot) - 1)
        answers = standing.answers(page)
        self.assertIs(foe.has_won, answers == [])
        if bound == 1:
            self.assertIs(foe.has_won, True)
        self.assertEqual(self.told(foe), self.told(foe))
        return answers

    def check_all_replies(self, standing, lot):
        """Every row of legal replies. Returns the number of the states that were met."""
        seen = set()
        waiting = [()]
        while waiting:
            replies = waiting.pop()
            foe = foe_after(standing, lot, replies)
            state = (tuple(foe.standing.blanks()), tuple(foe.present_lot()), foe.next_page(), foe.bound())
            if state not in seen:
                seen.add(state)
                for copied in self.check(foe):
                    other = foe_after(standing, lot, replies)
                    page = other.next_page()
                    other.take_reply(*copied)
                    self.assertTrue(other.standing == foe.standing.after(page, *copied))
                    self.assertEqual(other.present_lot(), plain_trim(other.standing, foe.present_lot()))
                    self.assertLess(other.bound(), foe.bound())
                    waiting.append((*replies, copied))
        return len(seen)

    def check_drawn_replies(self, draw, standing, lot, trimming):
        """One row of drawn replies, up to the end."""
        foe = Foe(standing, lot)
        self.assertEqual(foe.present_lot(), trimming(standing, lot))
        answers = self.check(foe, trimming)
        updates = 1
        first = foe.bound()
        while answers:
            before, lot, bound, page = foe.standing, foe.present_lot(), foe.bound(), foe.next_page()
            copied = draw.choice(answers)
            foe.take_reply(*copied)
            self.assertTrue(foe.standing == before.after(page, *copied))
            self.assertEqual(foe.present_lot(), trimming(foe.standing, lot))
            self.assertLess(foe.bound(), bound)
            answers = self.check(foe, trimming)
            updates += 1
        self.assertIs(foe.has_won, True)
        self.assertLessEqual(updates, first)


class ExamplesTest(FoeCase):
    def test_first(self):
        standing = Standing(Web.path(3), 2, [0, 1, 0])
        foe = Foe(standing, [0, 1, 2])
        self.assertEqual(
            [foe.present_lot(), foe.bound(), foe.has_won, verdict(standing)],
            [[0, 1, 2], 2, False, ("lost", [0, 1, 2])],
        )

    def test_second(self):
        standing = Standing(Web(3, [(0, 1), (0, 2), (1, 2)]), 2, [0, 1, 1])
        self.assertEqual(verdict(standing), ("open", None))


class MadeFoesTest(FoeCase):
    def test_the_lot_is_trimmed(self):
        standing = Standing(Web.path(6), 2, [2, 0, 1, 0, 0, 1])
        foe = Foe(standing, [5, 4, 3, 2, 1, 0, 0, 3])
        self.assertEqual(foe.present_lot(), [3, 4])
        self.assertEqual(Foe(standing, [3, 2, 1, 1]).present_lot(), [1, 2, 3])
        self.assertTrue(foe.standing == standing)

    def test_no_page_ahead_of_not_short(self):
        standing = Standing(Web.path(3), 2, [2, 2, 2])
        self.assertEqual(self.refused(NoPage, Foe, standing, [0, 3, -1]).page, 3)
        self.assertEqual(self.refused(NoPage, Foe, standing, [2, -1, 3]).page, -1)

    def test_not_short(self):
        standing = Standing(Web.path(4), 2, [1, 0, 1, 0])
        for lot in [[], [3], [2, 1, 1], [0, 1, 3]]:
            self.assertEqual(self.refused(NotShort, Foe, standing, lot).lot, sorted(set(lot)))
        self.assertEqual(self.refused(NotShort, Foe, Standing.fresh(Web.ring(3), 1), [2, 0, 1]).lot, [0, 1, 2])

    def test_has_ring_with_the_least_page(self):
        triangle = [(3, 1), (3, 2), (1, 2)]
        web = Web(5, triangle + [(0, 4), (0, 1)])
        standing = Standing(web, 2, [2, 1, 1, 0, 2])
        self.assertEqual(self.refused(HasRing, Foe, standing, [0, 1, 2, 3, 4]).page, 1)
        two_way = Web(4, [(0, 1), (1, 2), (2, 3), (3, 0), (1, 0)])
        tight = Standing(two_way, 3, [1, 1, 1, 1])
        self.assertEqual(self.refused(HasRing, Foe, tight, [3, 2, 1, 0]).page, 0)

    def test_a_ring_in_the_web_but_not_in_the_lot(self):
        web = Web(4, [(0, 1), (1, 2), (2, 0), (1, 0), (2, 3), (3, 2)])
        standing = Standing(web, 4, [4, 4, 0, 1])
        self.assertEqual(Foe(standing, [0, 1, 2, 3]).present_lot(), [2, 3])
        self.check_all_replies(standing, [0, 1, 2, 3])

    def test_lists_are_new(self):
        lot = [0, 1, 2]
        foe = Foe(Standing(Web.path(3), 2, [0, 1, 0]), lot)
        told = self.told(foe)
        lot.clear()
        foe.present_lot().clear()
        foe.standing.blanks().clear()
        self.assertEqual(self.told(foe), told)


class RepliesTest(FoeCase):
    def start(self):
        return Foe(Standing(Web.path(4), 2, [0, 1, 0, 2]), [0, 1, 2])

    def check_refused(self, error, *copied):
        foe = self.start()
        told = self.told(foe)
        found = self.refused(error, foe.take_reply, *copied)
        self.assertEqual(self.told(foe), told)
        return found

    def test_too_many_different_numbers(self):
        self.assertEqual(self.check_refused(TooMany, 0, 1).count, 2)
        self.assertEqual(self.check_refused(TooMany, 0, 1, 0, 2, 1).count, 3)
        self.assertEqual(self.check_refused(TooMany, 9, -1).count, 2)
        self.assertEqual(self.check_refused(TooMany, 9, 9, 0, -5, 77).count, 4)

    def test_no_page(self):
        for page in [4, -1, 9]:
            self.assertEqual(self.check_refused(NoPage, page).page, page)
            self.assertEqual(self.check_refused(NoPage, page, page).page, page)

    def test_no_line(self):
        foe = self.start()
        self.assertEqual(foe.next_page(), 1)
        self.assertEqual(self.check_refused(NoLine, 1).page, 0)
        self.assertEqual(self.check_refused(NoLine, 2).page, 1)
        self.assertEqual(self.check_refused(NoLine, 3, 3).page, 2)

    def test_one_number_several_times(self):
        foe = self.start()
        foe.take_reply(0, 0, 0)
        self.assertEqual(foe.standing.blanks(), [2, 0, 0, 2])
        self.assertEqual([foe.present_lot(), foe.bound(), foe.has_won], [[1, 2], 1, True])

    def test_after_the_end_every_reply_is_refused(self):
        foe = self.start()
        foe.take_reply()
        self.assertIs(foe.has_won, True)
        told = self.told(foe)
        for copied in [(), (0,), (1,), (2,), (3,)]:
            self.refused(NoLine, foe.take_reply, *copied)
            self.assertEqual(self.told(foe), told)

    def test_what_was_told_stays(self):
        standing = Standing(Web.path(5), 2, [0, 1, 1, 1, 0])
        foe = Foe(standing, [0, 1, 2, 3, 4])
        first, lot = foe.standing, foe.present_lot()
        foe.take_reply()
        self.assertTrue(first == standing)
        self.assertEqual(standing.blanks(), [0, 1, 1, 1, 0])
        self.assertEqual(lot, [0, 1, 2, 3, 4])
        self.assertNotEqual(foe.present_lot(), lot)


class AllRepliesTest(FoeCase):
    def lots(self):
        """Webs of which every standing that is short by little is attacked."""
        return [
            Web.path(2), Web.ring(2), Web.path(3), Web.path(4), Web.path(3, two_way=True), Web.path(4, two_way=True),
            Web.ring(3), Web.ring(4), Web(3, [(0, 1), (2, 1)]), Web(3, [(0, 1), (0, 2)]), two_way_star(2),
            Web(3, [(0, 1), (1, 0), (1, 2)]), Web(3, [(0, 1), (1, 0), (2, 1)]), Web(4, [(0, 1), (1, 0), (1, 2), (3, 2)]),
            Web.of_parents([None, 0, 0, 1]), Web(4, [(1, 0), (2, 0), (2, 3), (3, 2)]),
        ]

    def test_all_standings_of_small_webs(self):
        met = 0
        for web in self.lots():
            for lines in [0, 1, 2] if web.pages > 3 else [0, 1, 2, 3]:
                for standing in all_standings(web, lines):
                    if has_short(standing, every_page(web)):
                        met += self.check_all_replies(standing, every_page(web))
        self.assertGreater(met, 1000)

    def test_drawn_small_lots_with_further_pages(self):
        draw = drawn(71)
        met = 0
        for _ in range(120):
            web = draw.choice(self.lots())
            start = one_fewer(draw, tight_standing(draw, web))
            standing, lot = with_others(draw, start, draw.randint(1, 3), draw.randint(0, 6))
            met += self.check_all_replies(standing, lot)
        self.assertGreater(met, 400)

    def test_drawn_forests(self):
        draw = drawn(72)
        for _ in range(40):
            web = drawn_forest(draw, draw.randint(2, 6), two_way=draw.choice([0, 0.5, 1]), cut=0)
            start = one_fewer(draw, tight_standing(draw, web))
            self.check_all_replies(start, every_page(web))

    def test_any_web_whose_trimmed_lot_fits(self):
        draw = drawn(73)
        attacked = 0
        for _ in range(150):
            web = drawn_web(draw, draw.randint(2, 5), draw.randint(1, 9))
            standing = drawn_standing(draw, web, draw.randint(0, 3))
            every = every_page(web)
            if has_short(standing, every):
                lot = plain_trim(standing, every)
                if fits(web, lot):
                    attacked += 1
                    self.check_all_replies(standing, every)
                else:
                    self.assertEqual(self.refused(HasRing, Foe, standing, every).page, lot[0])
        self.assertGreater(attacked, 40)


class LargeLotsTest(FoeCase):
    def test_middle_sized_lots_with_further_pages(self):
        draw = drawn(74)
        webs = [Web.path(8), Web.path(7, two_way=True), Web.ring(8), two_way_star(6), Web.of_parents([None] + [0] * 7),
                Web.of_parents([None, 0, 0, 1, 1, 2, 2, 3]), Web(6, [(page, 0) for page in range(1, 6)])]
        webs += [drawn_forest(draw, 8, two_way=0.5, cut=0) for _ in range(8)]
        for web in webs:
            for _ in range(4):
                start = one_fewer(draw, tight_standing(draw, web))
                standing, lot = with_others(draw, start, draw.randint(0, 4), draw.randint(0, 9))
                self.check_drawn_replies(draw, standing, lot, plain_trim)

    def test_long_path_from_end_to_end(self):
        draw = drawn(75)
        for web, blank in [
            (Web.path(60), [0] + [1] * 58 + [0]), (Web.ring(60), [1] * 59 + [0]),
            (Web.path(40, two_way=True), [1] + [2] * 38 + [0]), (Web.path(40, two_way=True), [0] + [2] * 38 + [1]),
        ]:
            for lines in [2, 4]:
                standing = Standing(web, lines, blank)
                self.assertEqual(Foe(standing, every_page(web)).present_lot(), every_page(web))
                self.check_drawn_replies(draw, standing, every_page(web), trim)

    def test_200_pages(self):
        draw = drawn(76)
        for web in [Web.path(200), Web.path(200, two_way=True), drawn_forest(draw, 200, cut=0), two_way_star(199)]:
            start = one_fewer(draw, tight_standing(draw, web))
            self.check_drawn_replies(draw, start, every_page(web), trim)
        many = drawn_web(draw, 200, 5000)
        standing = Standing(many, 60, [0 if page in many.arrows()[7] else 60 for page in range(200)])
        self.check_drawn_replies(draw, standing, every_page(many), trim)


class VerdictTest(FoeCase):
    def check_verdict(self, standing):
        """The word of the verdict, with all that it must prove."""
        web, every = standing.web, every_page(standing.web)
        word, proof = verdict(standing)
        if not has_short(standing, every):
            if greatest_degree(web) <= standing.lines:
                self.assertEqual(word, "keepable")
                self.assertTrue(is_dealing_plainly(standing, proof))
                return word
        elif fits(web, plain_trim(standing, every)):
            self.assertEqual((word, proof), ("lost", plain_trim(standing, every)))
            return word
        self.assertEqual((word, proof), ("open", None))
        return word

    def test_each_result(self):
        self.assertEqual(self.check_verdict(Standing.fresh(Web.path(3), 2)), "keepable")
        self.assertEqual(verdict(Standing(Web.path(2), 1, [0, 1])), ("keepable", [1]))
        self.assertEqual(self.check_verdict(Standing(Web.ring(3), 2, [1, 1, 0])), "lost")
        self.assertEqual(self.check_verdict(Standing(Web.path(3, two_way=True), 4, [1, 1, 1])), "lost")
        full = Web(3, [(a, b) for a in range(3) for b in range(3) if a != b])
        self.assertEqual(self.check_verdict(Standing(full, 4, [2, 2, 1])), "open")
        self.assertEqual(self.check_verdict(Standing(full, 4, [2, 2, 2])), "keepable")
        self.assertEqual(verdict(Standing(Web(2, []), 0, [0, 0])), ("keepable", []))

    def test_a_degree_greater_than_the_lines(self):
        self.assertEqual(self.check_verdict(Standing.fresh(Web.path(3), 1)), "open")
        self.assertEqual(self.check_verdict(Standing(Web.path(3), 1, [0, 1, 0])), "lost")
        self.assertEqual(self.check_verdict(Standing.fresh(Web.path(2), 0)), "lost")
        self.assertEqual(self.check_verdict(Standing.fresh(Web.ring(2), 1)), "open")
        self.assertEqual(self.check_verdict(Standing.fresh(Web(4, [(0, 1), (0, 2), (0, 3)]), 2)), "open")

    def test_the_trimmed_lot_decides(self):
        triangle = [(0, 1), (0, 2), (1, 2)]
        standing = Standing(Web(5, triangle + [(3, 4)]), 2, [0, 1, 1, 0, 0])
        self.assertEqual(verdict(standing), ("lost", [3, 4]))
        other = Standing(Web(5, [(0, 1)] + [(a + 2, b + 2) for a, b in triangle]), 2, [0, 0, 0, 1, 1])
        self.assertEqual(verdict(other), ("open", None))

    def test_all_small_webs(self):
        draw = drawn(77)
        words = []
        for web in small_webs() + [drawn_web(draw, draw.randint(2, 6), draw.randint(1, 10)) for _ in range(60)]:
            for lines in range(5):
                words.append(self.check_verdict(drawn_standing(draw, web, lines)))
        for word in ["keepable", "lost", "open"]:
            self.assertGreater(words.count(word), 20)

    def test_large_webs(self):
        draw = drawn(78)
        for web in [Web.path(200), Web.path(200, two_way=True), Web.ring(200), drawn_forest(draw, 200)]:
            tight = tight_standing(draw, web)
            standing = Standing(web, max(tight.lines, greatest_degree(web)), tight.blanks())
            word, owners = verdict(standing)
            self.assertEqual(word, "keepable")
            self.assertTrue(is_dealing_plainly(standing, owners))
            short = one_fewer(draw, standing)
            self.assertEqual(verdict(short), ("lost", trim(short, every_page(web))))


class AgreementTest(FoeCase):
    """Point 26: what games, keepers and foes say of the same standings."""

    def webs(self):
        draw = drawn(79)
        webs = [web for web in small_webs() if web.pages <= 4]
        return webs + [drawn_web(draw, draw.randint(2, 4), draw.randint(1, 7)) for _ in range(12)]

    def test_point_26(self):
        for web in self.webs():
            for lines in range(5 if web.pages < 4 else 4):
                game = Game(web, lines)
                for standing in all_standings(web, lines):
                    self.check_standing(game, standing)

    def check_standing(self, game, standing):
        web = standing.web
        value = game.value(standing.blanks())
        word, _ = verdict(standing)
        if word == "keepable":
            self.assertIsNone(value)
        if word == "lost":
            self.assertIsNotNone(value)
            self.assertLessEqual(value, Foe(standing, every_page(web)).bound())
        if web.is_settled() and greatest_degree(web) <= standing.lines:
            self.assertIs(value is None, has_dealing(standing))
            self.assertNotEqual(word, "open")

    def test_keepers_give_safe_answers(self):
        for web in self.webs():
            lines = greatest_degree(web)
            if (lines + 1) ** web.pages <= 3000:
                game = Game(web, lines)
                for standing in all_standings(web, lines):
                    if has_dealing(standing):
                        for page in range(web.pages):
                            answer = Keeper(standing).use_line(page)
                            self.assertIn(answer, game.safe_answers(standing.blanks(), page))


if __name__ == "__main__":
    unittest.main()
