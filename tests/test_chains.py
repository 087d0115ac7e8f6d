"""Points 38 to 42 and 44 and the interface of onecopy.chains."""

import unittest
from itertools import combinations, product

from onecopy.chains import attack_row, chain_answer, count_chains, heights, is_keepable_chain
from onecopy.counts import count_dealable
from onecopy.errors import NoLine, NoPage, NotKeepable
from onecopy.game import Game
from onecopy.standings import Standing
from onecopy.webs import Web
from tests.helpers import drawn
from tests.test_game import PlainGame
from tests.test_stretches import plain_heights, plain_keepable


def all_chains(pages, lines):
    return [list(blank) for blank in product(range(lines + 1), repeat=pages)]


def after_update(blank, lines, page, copied):
    """The blank lines after an update, or None if it is not legal."""
    try:
        return Standing(Web.path(len(blank)), lines, blank).after(page, *copied).blanks()
    except NoLine:
        return None


def answers(blank, lines, copies, page):
    """The blank lines after each legal answer."""
    found = []
    for size in range(min(copies, len(blank)) + 1):
        for copied in combinations(range(len(blank)), size):
            after = after_update(blank, lines, page, copied)
            if after is not None:
                found.append(after)
    return found


def lowest_too_high(blank, copies):
    pages = [page for page, height in enumerate(plain_heights(blank, copies)) if height > copies]
    return max(pages, default=None)


def reads_as_in_point_40(blank, copies, first, last):
    """The pages from the first to the last one read as a stretch of point 40."""
    rest = blank[first:last + 1]
    middle = rest[copies:-1]
    blocks = [middle[at:at + copies] for at in range(0, len(middle), copies)]
    return (rest[:copies] == [0] * copies and len(rest) > copies and rest[-1] == 0
            and all(block == [1] + [0] * (copies - 1) for block in blocks))


class ChainCase(unittest.TestCase):
    def refused(self, error, call, *arguments):
        with self.assertRaises(error) as caught:
            call(*arguments)
        return caught.exception

    def check_answer(self, blank, lines, copies, page):
        """Point 41, word by word, and that it is legal and keeps the chain keepable. Returns the blank lines."""
        answer, after = chain_answer(blank, lines, copies, page)
        self.assertIsInstance(answer, tuple)
        self.assertLessEqual(len(answer), copies)
        self.assertEqual(after, after_update(blank, lines, page, answer))
        self.assertTrue(plain_keepable(after, copies))
        self.assertEqual(answer, self.by_the_rules(blank, lines, copies, page))
        return after

    def by_the_rules(self, blank, lines, copies, page):
        alone = after_update(blank, lines, page, ())
        if alone is not None and plain_keepable(alone, copies):
            return ()
        left = blank if alone is None else alone
        start = page if alone is None else lowest_too_high(alone, copies)
        copied = [start]
        while copied[0] > 0 and left[copied[0] - 1] == 0:
            copied.insert(0, copied[0] - 1)
        high = lowest_too_high(after_update(blank, lines, page, copied), copies)
        return tuple(sorted(copied + [high] if high is not None else copied))

    def check_attack(self, blank, lines, copies):
        """Point 42: the row has the right form, and no answers get to its end."""
        row = attack_row(blank, copies)
        last, first = row[0], row[-1] - copies
        self.assertEqual(row, list(range(last, first, -copies)))
        self.assertEqual(len(row), (last - first) // copies)
        self.assertTrue(reads_as_in_point_40(blank, copies, first, last))
        reached = {tuple(blank)}
        for page in row:
            reached = {tuple(after) for now in reached for after in answers(list(now), lines, copies, page)}
        self.assertEqual(reached, set())


class ExamplesTest(ChainCase):
    def test_first(self):
        self.assertEqual(
            [heights([0, 1, 0], 1), attack_row([0, 1, 0], 1), chain_answer([2, 0, 0, 1], 2, 2, 3)],
            [[2, 1, 1], [2, 1], ((1,), [1, 2, 0, 0])])

    def test_second(self):
        self.assertEqual([count_chains(5, 2, 1), count_chains(5, 2, 2), count_chains(5, 2, 3)], [144, 221, 238])


class HeightsTest(ChainCase):
    def test_all_short_chains(self):
        for copies in [1, 2, 3]:
            for pages in range(7):
                for blank in all_chains(pages, 2):
                    self.assertEqual(heights(blank, copies), plain_heights(blank, copies))
                    self.assertIs(is_keepable_chain(blank, copies), plain_keepable(blank, copies))

    def test_against_point_40(self):
        for copies in [1, 2, 3]:
            for blank in all_chains(7, 2):
                reads = any(reads_as_in_point_40(blank, copies, first, last)
                            for first in range(7) for last in range(first + copies, 7, copies))
                self.assertIs(is_keepable_chain(blank, copies), not reads)

    def test_long_chains(self):
        draw = drawn(131)
        for copies in [1, 2, 9]:
            blank = [draw.choice([0, 0, 1, 2, 60]) for _ in range(900)]
            self.assertEqual(heights(blank, copies), plain_heights(blank, copies))
        self.assertEqual(heights([0] * 500, 3), list(range(500, 0, -1)))
        self.assertIs(is_keepable_chain([0] * 500, 500), True)
        self.assertIs(is_keepable_chain([0] * 500, 499), False)

    def test_empty_chain(self):
        self.assertEqual([heights([], 1), is_keepable_chain([], 1), attack_row([], 2)], [[], True, []])

    def test_against_games(self):
        for copies in [1, 2, 3]:
            for lines in [2, 3, 4]:
                for pages in range(1, 5):
                    if (lines + 1) ** pages <= 130:
                        plain = PlainGame(Web.path(pages), lines, copies)
                        for blank, value in plain.values.items():
                            self.assertIs(is_keepable_chain(list(blank), copies), value is None)
                for pages in range(1, 8):
                    if (lines + 1) ** pages <= 3000:
                        kept = [blank for blank in all_chains(pages, lines) if is_keepable_chain(blank, copies)]
                        self.assertEqual(Game(Web.path(pages), lines, copies=copies).keepable(), kept)


class AnswersTest(ChainCase):
    def test_all_short_chains(self):
        for copies in [1, 2, 3]:
            for lines, longest in [(2, 5), (3, 4), (4, 3)]:
                for pages in range(1, longest + 1):
                    for blank in all_chains(pages, lines):
                        if plain_keepable(blank, copies):
                            for page in range(pages):
                                self.check_answer(blank, lines, copies, page)

    def test_long_rows(self):
        draw = drawn(132)
        for copies in [1, 2, 3, 7]:
            for lines in [2, 3, 60]:
                for pages in [1, 8, 60]:
                    for always in [0, pages - 1, pages // 2, None]:
                        blank = [draw.randint(2, lines) for _ in range(pages)]
                        for _ in range(40):
                            page = draw.randrange(pages) if always is None else always
                            blank = self.check_answer(blank, lines, copies, page)

    def test_the_second_rule(self):
        seen = 0
        for copies in [2, 3]:
            for blank in all_chains(6, 2):
                for page in range(6) if plain_keepable(blank, copies) else []:
                    answer, _ = chain_answer(blank, 2, copies, page)
                    if answer and answer[-1] - answer[0] >= len(answer):
                        seen += 1
                        self.check_answer(blank, 2, copies, page)
        self.assertGreater(seen, 0)

    def test_no_page(self):
        for page in [3, -1, 200]:
            self.assertEqual(self.refused(NoPage, chain_answer, [2, 2, 2], 2, 1, page).page, page)
            self.assertEqual(self.refused(NoPage, chain_answer, [0, 0, 0], 2, 1, page).page, page)
        for page in [0, -1, 1]:
            self.assertEqual(self.refused(NoPage, chain_answer, [], 2, 1, page).page, page)

    def test_not_keepable_with_the_lowest_page(self):
        for blank, copies, page in [([0, 1, 0], 1, 0), ([0, 0, 2, 0, 1, 0, 2], 1, 3), ([0, 0, 2, 0, 0, 0], 2, 3),
                                    ([0, 0, 0, 0], 1, 2), ([0, 0, 0, 0], 3, 0)]:
            for updated in range(len(blank)):
                self.assertEqual(self.refused(NotKeepable, chain_answer, blank, 2, copies, updated).page, page)
        for copies in [1, 2]:
            for blank in all_chains(5, 2):
                if not plain_keepable(blank, copies):
                    self.assertEqual(self.refused(NotKeepable, chain_answer, blank, 2, copies, 4).page,
                                     lowest_too_high(blank, copies))

    def test_lists_stay(self):
        blank = [2, 0, 0, 1]
        chain_answer(blank, 2, 2, 3)[1].clear()
        chain_answer(blank, 2, 2, 0)
        heights(blank, 1).clear()
        attack_row(blank, 1)
        is_keepable_chain(blank, 1)
        self.assertEqual(blank, [2, 0, 0, 1])
        self.assertEqual(chain_answer(blank, 2, 2, 3), ((1,), [1, 2, 0, 0]))


class AttackTest(ChainCase):
    def test_all_short_chains(self):
        for copies in [1, 2, 3]:
            for lines, longest in [(2, 6), (3, 4), (4, 4)]:
                for pages in range(longest + 1):
                    for blank in all_chains(pages, lines):
                        if plain_keepable(blank, copies):
                            self.assertEqual(attack_row(blank, copies), [])
                        else:
                            self.check_attack(blank, lines, copies)

    def test_longer_stretches(self):
        for copies, blocks in [(1, 3), (1, 5), (2, 1), (2, 2), (3, 1)]:
            blank = [2] + [0] * copies + ([1] + [0] * (copies - 1)) * blocks + [0, 1]
            self.check_attack(blank, 2, copies)

    def test_long_chains(self):
        for copies in [1, 2, 5]:
            blank = [3] * 100 + [0] * copies + ([1] + [0] * (copies - 1)) * 150 + [0] + [0, 2, 1] * 20
            row = attack_row(blank, copies)
            last, first = row[0], row[-1] - copies
            self.assertEqual(row, list(range(last, first, -copies)))
            self.assertTrue(reads_as_in_point_40(blank, copies, first, last))


class CountsTest(ChainCase):
    def test_plain_counts(self):
        for copies in [1, 2, 3, 9]:
            for lines in [2, 3, 4]:
                for pages in range(6 if lines == 2 else 5):
                    kept = [1 for blank in all_chains(pages, lines) if plain_keepable(blank, copies)]
                    self.assertEqual(count_chains(pages, lines, copies), len(kept))

    def test_no_pages(self):
        for lines in [2, 60]:
            for copies in [1, 2, 50]:
                self.assertEqual(count_chains(0, lines, copies), 1)

    def test_one_copy_is_the_count_of_point_16(self):
        for lines in [2, 3, 60]:
            counts = [1, lines + 1]
            while len(counts) < 600:
                counts.append((lines + 1) * counts[-1] - counts[-2])
            for pages in [0, 1, 2, 3, 50, 200, 599]:
                self.assertEqual(count_chains(pages, lines, 1), counts[pages])
            self.assertEqual(count_chains(200, lines, 1), count_dealable(Web.path(200), lines))

    def test_hundreds_of_pages(self):
        for copies in [2, 3, 7]:
            ways = {0: 1}
            for _ in range(500):
                more = {}
                for height, number in ways.items():
                    for blank in range(5):
                        over = 0 if blank > 1 else height + 1 if blank == 0 else 1 if height >= copies else 0
                        if over <= copies:
                            more[over] = more.get(over, 0) + number
                ways = more
            self.assertEqual(count_chains(500, 4, copies), sum(ways.values()))

    def test_as_many_copies_as_pages(self):
        for pages in [1, 4, 300]:
            self.assertEqual(count_chains(pages, 5, pages), 6 ** pages)
            self.assertEqual(count_chains(pages + 1, 5, pages), 6 ** (pages + 1) - 1)


if __name__ == "__main__":
    unittest.main()
