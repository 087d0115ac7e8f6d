"""Points 8 and 27 and the interface of onecopy.game."""

import unittest
from copy import deepcopy
from itertools import combinations, product

from onecopy.errors import InvalidStanding, NoLine, NoPage, TooMany
from onecopy.game import Game
from onecopy.standings import Standing
from onecopy.webs import Web
from tests.helpers import drawn, drawn_web, small_webs, two_way_star


def plain_answers(standing, page, copies):
    """The legal answers of at most so many pages, each with the blank lines after it."""
    found = []
    for size in range(min(copies, standing.web.pages) + 1):
        for copied in combinations(range(standing.web.pages), size):
            try:
                found.append((copied, tuple(standing.after(page, *copied).blanks())))
            except NoLine:
                pass
    return found


class PlainGame:
    """Point 27, word by word."""

    def __init__(self, web, lines, copies):
        self.standings = [Standing(web, lines, list(blank)) for blank in product(range(lines + 1), repeat=web.pages)]
        self.answers = {
            tuple(standing.blanks()): [plain_answers(standing, page, copies) for page in range(web.pages)]
            for standing in self.standings}
        self.values = {blank: None for blank in self.answers}
        updates = 1
        while self.lose(updates):
            updates += 1

    def lose(self, updates):
        """Whether some standing has the value "updates"; writes it down."""
        lost = [
            blank for blank, pages in self.answers.items()
            if self.values[blank] is None and any(
                all(self.values[after] is not None for _, after in answers) for answers in pages)]
        for blank in lost:
            self.values[blank] = updates
        return bool(lost)

    def safe(self, blank, page):
        return [copied for copied, after in self.answers[blank][page] if self.values[after] is None]


class GameCase(unittest.TestCase):
    def refused(self, error, call, *arguments, **more):
        with self.assertRaises(error) as caught:
            call(*arguments, **more)
        return caught.exception

    def check_game(self, web, lines, copies):
        game = Game(web, lines, copies=copies)
        plain = PlainGame(web, lines, copies)
        for blank, value in plain.values.items():
            self.assertEqual(game.value(list(blank)), value, (web.arrows(), lines, copies, blank))
            for page in range(web.pages):
                self.assertEqual(game.safe_answers(list(blank), page), plain.safe(blank, page))
        self.assertEqual(
            game.keepable(), sorted(list(blank) for blank, value in plain.values.items() if value is None))
        return [value for value in plain.values.values() if value is not None]


class ExamplesTest(GameCase):
    def test_example(self):
        game = Game(Web.path(3), 2)
        self.assertEqual(
            [len(game.keepable()), game.value([0, 1, 0]), game.value([0, 0, 2]), game.safe_answers([0, 1, 1], 2)],
            [21, 2, 1, [(0,)]])


class PlainSearchTest(GameCase):
    def test_webs_of_every_kind(self):
        for web in small_webs():
            for lines in range(4):
                if (lines + 1) ** web.pages <= 130:
                    for copies in [1, 2, 3]:
                        self.check_game(web, lines, copies)

    def test_drawn_webs(self):
        draw = drawn(81)
        for _ in range(25):
            web = drawn_web(draw, draw.randint(2, 5), draw.randint(1, 10))
            for copies in [1, 2, 3]:
                self.check_game(web, draw.randint(0, 2 if web.pages < 5 else 1), copies)

    def test_long_games(self):
        full = Web(5, [(a, b) for a in range(5) for b in range(5) if a != b])
        self.assertEqual(max(self.check_game(full, 3, 1)), 8)
        self.assertEqual(max(self.check_game(Web.path(5, two_way=True), 2, 2)), 4)

    def test_more_lines(self):
        for web, lines in [(Web.ring(2), 7), (Web.path(2), 8), (Web.path(3), 4), (Web(1, []), 30)]:
            for copies in [1, 2]:
                self.check_game(web, lines, copies)

    def test_more_copies_than_pages(self):
        for web in [Web.path(3), Web.ring(3), Web.ring(2), Web(1, [])]:
            for lines in [0, 1, 2]:
                self.check_game(web, lines, 5)

    def test_one_copy_unless_given(self):
        for web in [Web.path(3), Web.ring(3)]:
            self.assertEqual(Game(web, 2).keepable(), Game(web, 2, copies=1).keepable())
            self.assertLess(len(Game(web, 2).keepable()), len(Game(web, 2, copies=2).keepable()))


class NoLinesTest(GameCase):
    def test_small_webs(self):
        for web in small_webs():
            if web.pages <= 6:
                for copies in [1, 2, 3, 6]:
                    self.check_game(web, 0, copies)

    def test_large_webs(self):
        alone = Web(200, [])
        for copies in [1, 2, 200]:
            game = Game(alone, 0, copies=copies)
            self.assertEqual([game.keepable(), game.value([0] * 200)], [[[0] * 200], None])
        self.assertEqual(Game(alone, 0).safe_answers([0] * 200, 9), [(9,)])
        self.assertEqual(
            Game(alone, 0, copies=2).safe_answers([0] * 200, 1),
            [(1,), (0, 1)] + [(1, page) for page in range(2, 200)])
        path = Web.path(200)
        for copies in [1, 3, 199]:
            game = Game(path, 0, copies=copies)
            self.assertEqual([game.keepable(), game.value([0] * 200)], [[], 1])
            self.assertEqual(game.safe_answers([0] * 200, 0), [])
        self.assertEqual(Game(path, 0, copies=200).value([0] * 200), None)
        self.assertEqual(
            Game(path, 0, copies=200).safe_answers([0] * 200, 197),
            [tuple(range(size)) for size in [198, 199, 200]])


class SizeTest(GameCase):
    def test_too_many(self):
        for pages, lines, count in [(12, 1, 4096), (8, 2, 6561), (5, 4, 3125), (2, 54, 3025), (1, 3000, 3001),
                                    (200, 1, 2 ** 200), (200, 60, 61 ** 200)]:
            for copies in [1, 3]:
                self.assertEqual(self.refused(TooMany, Game, Web(pages, []), lines, copies=copies).count, count)

    def test_3000_or_fewer(self):
        for pages, lines in [(1, 2999), (11, 1), (7, 2), (2, 53), (1, 60), (5, 3)]:
            game = Game(Web(pages, []), lines)
            self.assertEqual(len(game.keepable()), (lines + 1) ** pages)
        self.assertEqual(Game(Web(1, []), 2999).safe_answers([0], 0), [(0,)])
        self.assertEqual(Game(Web(1, []), 2999).keepable()[-1], [2999])

    def test_large_games(self):
        self.assertEqual(len(Game(Web.path(7), 2).keepable()), 987)
        self.assertEqual(len(Game(Web.path(5), 3).keepable()), 780)
        self.assertEqual(len(Game(Web.path(2), 53).keepable()), 54 * 54 - 1)
        for web, lines in [(Web.path(11), 1), (two_way_star(10), 1), (Web.ring(7), 2)]:
            for copies in [1, 2, 3]:
                game = Game(web, lines, copies=copies)
                for blank in [[lines] * web.pages, [0] * web.pages, [lines, 0] * (web.pages // 2) + [lines]]:
                    self.check_value(game, Standing(web, lines, blank), copies)

    def check_value(self, game, standing, copies):
        """Point 27 for one standing, from the values of the standings after it."""
        worst = []
        for page in range(standing.web.pages):
            after = [game.value(list(blank)) for _, blank in plain_answers(standing, page, copies)]
            if None not in after:
                worst.append(1 + max(after, default=0))
            safe = [copied for copied, blank in plain_answers(standing, page, copies)
                    if game.value(list(blank)) is None]
            self.assertEqual(game.safe_answers(standing.blanks(), page), safe)
        self.assertEqual(game.value(standing.blanks()), min(worst, default=None))


class ErrorsTest(GameCase):
    def test_invalid_standing(self):
        game = Game(Web.path(3), 2)
        for blank, page in [([], None), ([1, 1], None), ([1, 1, 1, 1], None), ([9, 9], None), ([1, 3, -1], 1),
                            ([-1, 0, 3], 0), ([0, 0, 3], 2)]:
            self.assertEqual(self.refused(InvalidStanding, game.value, blank).page, page)
            for updated in [0, 3, -1]:
                self.assertEqual(self.refused(InvalidStanding, game.safe_answers, blank, updated).page, page)

    def test_no_page(self):
        game = Game(Web.path(3), 2, copies=2)
        for page in [3, -1, 200]:
            self.assertEqual(self.refused(NoPage, game.safe_answers, [0, 0, 0], page).page, page)

    def test_lists_are_new(self):
        game = Game(Web.path(2), 1)
        blank = [1, 0]
        told = deepcopy([game.value(blank), game.keepable(), game.safe_answers(blank, 1)])
        game.keepable().clear()
        game.keepable()[0].clear()
        game.safe_answers(blank, 1).clear()
        self.assertEqual(blank, [1, 0])
        self.assertEqual([game.value(blank), game.keepable(), game.safe_answers(blank, 1)], told)


if __name__ == "__main__":
    unittest.main()
