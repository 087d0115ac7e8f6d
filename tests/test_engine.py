"""Points 33 to 37 and the interface of onecopy.engine."""

import unittest

from onecopy.cells import Disk
from onecopy.chest import Chest
from onecopy.engine import Engine
from onecopy.errors import NoDay, NoPage, NoPath, Stopped, TooFewLines, Unreachable
from onecopy.standings import Standing
from onecopy.webs import Web
from tests.helpers import drawn, drawn_web, greatest_degree, has_dealing, two_way_star


def reachable(web, entries):
    found, waiting = set(), list(entries)
    while waiting:
        page = waiting.pop()
        if page not in found:
            found.add(page)
            waiting += web.targets(page)
    return found


def entries_for(draw, web):
    """Entry pages from which every page can be reached, in any order, some of them twice."""
    entries = []
    for page in draw.sample(range(web.pages), web.pages):
        if page not in reachable(web, entries):
            entries.append(page)
    return entries + [draw.choice(entries)]


def engine_webs():
    draw = drawn(111)
    return [
        Web(1, []), Web.path(2), Web.path(6), Web.ring(2), Web.ring(5), Web.path(4, two_way=True), two_way_star(4),
        Web.of_parents([None, 0, 0, 1, 1, 2]), Web(4, [(0, 2), (1, 2), (2, 3), (3, 1)]), drawn_web(draw, 5, 20),
        drawn_web(draw, 7, 15), drawn_web(draw, 8, 30),
    ]


class KnownEngine:
    """An engine with the texts that its pages had at the end of each day."""

    def __init__(self, web, lines, entries):
        self.engine = Engine(web, lines, [f"page {page}" for page in range(web.pages)], entries)
        self.texts = [[f"page {page}" for page in range(web.pages)]]

    def write(self, page, text):
        answer = self.engine.write_page(page, text)
        self.texts.append([text if at == page else old for at, old in enumerate(self.texts[-1])])
        return answer


class EngineCase(unittest.TestCase):
    def refused(self, error, call, *arguments):
        with self.assertRaises(error) as caught:
            call(*arguments)
        return caught.exception

    def check_write(self, known, page, text):
        """Points 18 and 34 for one update."""
        engine = known.engine
        before, writes, stored = engine.standing, engine.chest.disk.writes, len(engine.chest.stored())
        answer = known.write(page, text)
        self.assertIn(answer, before.answers(page))
        self.assertTrue(engine.standing == before.after(page, *answer))
        try:
            stays = has_dealing(before.after(page))
        except ValueError:
            stays = False
        self.assertIs(answer == (), stays)
        self.assertEqual(engine.today, len(known.texts) - 1)
        self.assertEqual(len(engine.chest.stored()), stored + len(answer))
        holders = sum(len(engine.web.holders(copied)) for copied in answer)
        notes = holders + (0 if page in answer else 1)
        self.assertEqual(engine.chest.disk.writes, writes + len(answer) + notes + 1)
        self.assertEqual(
            [engine.chest.blank_of(at) for at in range(engine.web.pages)], engine.standing.blanks())
        return answer

    def check_days(self, engine, texts, days=None):
        """Point 35 for all paths of up to four pages, and read."""
        self.assertEqual([engine.today, engine.days()], [len(texts) - 1, list(range(len(texts)))])
        for day in range(len(texts)) if days is None else days:
            self.assertEqual([engine.read(page, day) for page in range(engine.web.pages)], texts[day])
            for path in self.paths(engine, 4):
                self.assertEqual(engine.follow(path, day), [texts[day][page] for page in path])
                self.check_trail(engine, path, day)

    def paths(self, engine, length):
        paths = [[page] for page in engine.entries()]
        for path in paths:
            if len(path) < length:
                paths += [[*path, target] for target in engine.web.targets(path[-1])]
        return paths[:60]

    def check_trail(self, engine, path, day):
        """Each copy is the one to which the copy before it links."""
        chest, trail = engine.chest, engine.trail(path, day)
        self.assertEqual(trail[0], chest.entry_address(path[0], day))
        for before, address, page in zip(trail, trail[1:], path[1:]):
            self.assertIn((page, address), chest.look(before, day)[3])
        self.assertEqual([chest.look(address, day)[0] for address in trail], path)

    def check_histories(self, engine, texts):
        for page in range(engine.web.pages):
            row = [(day, texts[day][page]) for day in range(len(texts))]
            expected = [pair for at, pair in enumerate(row) if at == 0 or row[at - 1][1] != pair[1]]
            self.assertEqual(engine.history(page), expected)
            self.assertEqual(
                engine.copy_days(page), [day for _, stored, day in engine.chest.stored() if stored == page])
            self.assertEqual(engine.copy_days(page), sorted(set(engine.copy_days(page))))

    def check_changed(self, engine, texts, early, late):
        expected = [(page, old, new) for page, (old, new) in enumerate(zip(texts[early], texts[late])) if old != new]
        self.assertEqual(engine.changed(early, late), expected)


class ExamplesTest(EngineCase):
    def test_example(self):
        engine = Engine(Web.path(2), 2, ["a", "b"], [0])
        answers = [engine.write_page(1, "c"), engine.write_page(1, "d"), engine.write_page(1, "e")]
        self.assertEqual(
            [answers[2], engine.read(1, 0), engine.read(1, 2), engine.follow([0, 1], 3), engine.standing.blanks()],
            [(1,), "b", "d", ["a", "e"], [1, 2]])


class MadeEnginesTest(EngineCase):
    def test_day_0(self):
        web = Web(4, [(2, 0), (2, 3), (3, 1)])
        engine = Engine(web, 3, ["a", "", "c", "d"], [2, 1, 2])
        self.assertTrue(engine.web == web)
        self.assertIsInstance(engine.chest, Chest)
        self.assertEqual([engine.today, engine.days(), engine.entries()], [0, [0], [1, 2]])
        self.assertTrue(engine.standing == Standing.fresh(web, 3))
        self.assertEqual(engine.chest.stored(), [(2, 0, 0), (6, 1, 0), (10, 2, 0), (14, 3, 0)])
        self.assertEqual(engine.chest.entry_list(), [1, 2])
        self.assertEqual(engine.chest.look(10, 0), (2, "c", [], [(0, 2), (3, 14)]))
        self.assertEqual([engine.read(page, 0) for page in range(4)], ["a", "", "c", "d"])
        self.assertEqual(engine.trail([2, 3, 1], 0), [10, 14, 6])
        self.assertEqual([engine.trail([1], 0), engine.follow([2, 0], 0)], [[6], ["c", "a"]])

    def test_too_few_lines_first(self):
        web = Web(4, [(1, 2), (2, 3), (3, 1), (3, 2)])
        self.assertEqual(self.refused(TooFewLines, Engine, web, 2, [""] * 4, [9]).page, 2)
        self.assertEqual(self.refused(TooFewLines, Engine, web, 1, [""] * 4, []).page, 1)
        self.assertEqual(self.refused(NoPage, Engine, web, 3, [""] * 4, [1, 4, -1]).page, 4)
        self.assertEqual(self.refused(NoPage, Engine, web, 3, [""] * 4, [-1, 4]).page, -1)
        self.assertEqual(self.refused(Unreachable, Engine, web, 3, [""] * 4, [3]).page, 0)
        self.assertEqual(self.refused(Unreachable, Engine, web, 3, [""] * 4, [0]).page, 1)

    def test_unreachable(self):
        web = Web.path(4)
        self.assertEqual(self.refused(Unreachable, Engine, web, 2, [""] * 4, []).page, 0)
        self.assertEqual(self.refused(Unreachable, Engine, web, 2, [""] * 4, [1, 2]).page, 0)
        self.assertEqual(self.refused(Unreachable, Engine, Web(3, [(0, 2)]), 2, [""] * 3, [0]).page, 1)
        self.assertEqual(Engine(web, 2, ["a", "b", "c", "d"], [0]).read(3, 0), "d")

    def test_lists_are_copied(self):
        texts, entries = ["a", "b", "c"], [0]
        engine = Engine(Web.path(3), 2, texts, entries)
        texts.clear()
        entries.append(2)
        for rows in [engine.days(), engine.entries(), engine.follow([0, 1], 0), engine.trail([0], 0),
                     engine.history(1), engine.changed(0, 0), engine.copy_days(2)]:
            rows.append("x")
        engine.write_page(1, "d")
        self.assertEqual([engine.entries(), engine.days(), engine.history(1)], [[0], [0, 1], [(0, "b"), (1, "d")]])
        self.assertEqual([engine.follow([0, 1, 2], 1), engine.trail([0, 1], 0)], [["a", "d", "c"], [2, 5]])
        path = [0, 1]
        engine.follow(path, 1)
        self.assertEqual(path, [0, 1])


class UpdatesTest(EngineCase):
    def test_long_rows(self):
        draw = drawn(112)
        for web in engine_webs():
            degree = greatest_degree(web)
            for lines in [degree, degree + 1]:
                for always in [True, False]:
                    known = KnownEngine(web, lines, entries_for(draw, web))
                    page = draw.randrange(web.pages)
                    for update in range(30):
                        page = page if always else draw.randrange(web.pages)
                        self.check_write(known, page, draw.choice(["", f"text {update}", "same"]))
                        self.assertLessEqual(
                            len(known.engine.chest.stored()), web.pages + (update + 1) // (lines + 1 - degree))
                    self.check_days(known.engine, known.texts, [0, 1, 7, 15, 29, 30])
                    self.check_histories(known.engine, known.texts)

    def test_every_day_of_a_long_row(self):
        draw = drawn(113)
        for web in [Web.path(5), Web.ring(4), drawn_web(draw, 6, 12)]:
            known = KnownEngine(web, greatest_degree(web), entries_for(draw, web))
            for update in range(60):
                self.check_write(known, draw.randrange(web.pages), str(update // 2))
            self.check_days(known.engine, known.texts)
            self.check_histories(known.engine, known.texts)

    def test_a_text_that_is_there_already(self):
        known = KnownEngine(Web.path(3), 2, [0])
        for _ in range(9):
            self.check_write(known, 2, "page 2")
        self.assertEqual([known.engine.today, known.engine.history(2)], [9, [(0, "page 2")]])
        self.check_days(known.engine, known.texts)

    def test_updated_holder_of_the_copied_page_uses_two_lines(self):
        draw = drawn(114)
        seen = 0
        for web in [Web.path(3, two_way=True), drawn_web(draw, 5, 20), Web.ring(4), Web.ring(2)]:
            known = KnownEngine(web, greatest_degree(web) + 1, entries_for(draw, web))
            for update in range(200):
                page = draw.randrange(web.pages)
                before = known.engine.standing
                answer = self.check_write(known, page, str(update))
                if answer and (page, answer[0]) in web:
                    seen += 1
                    self.assertEqual(before.blank_of(page) - known.engine.standing.blank_of(page), 2)
            self.check_days(known.engine, known.texts, [0, 99, 200])
        self.assertGreater(seen, 0)

    def test_no_page(self):
        engine = Engine(Web.path(3), 2, ["a", "b", "c"], [0])
        engine.write_page(1, "d")
        cells, writes, standing = engine.chest.disk.cells(), engine.chest.disk.writes, engine.standing
        for page in [3, -1, 200]:
            self.assertEqual(self.refused(NoPage, engine.write_page, page, "x").page, page)
            self.assertEqual([engine.chest.disk.cells(), engine.chest.disk.writes, engine.today], [cells, writes, 1])
            self.assertTrue(engine.standing == standing)
            for call in [engine.history, engine.copy_days]:
                self.assertEqual(self.refused(NoPage, call, page).page, page)
            for day in [0, 9]:
                self.assertEqual(self.refused(NoPage, engine.read, page, day).page, page)

    def test_no_lines(self):
        known = KnownEngine(Web(3, []), 0, [2, 1, 0])
        for update, page in enumerate([2, 2, 0, 1]):
            self.assertEqual(self.check_write(known, page, str(update)), (page,))
        self.check_days(known.engine, known.texts)

    def test_large_webs(self):
        draw = drawn(115)
        for web in [Web.path(200), Web.ring(200), two_way_star(30), drawn_web(draw, 200, 600)]:
            lines = greatest_degree(web)
            known = KnownEngine(web, lines, entries_for(draw, web))
            for update in range(150):
                page = draw.choice([draw.randrange(web.pages), web.pages - 1])
                if update % 15 == 0:
                    self.check_write(known, page, str(update))
                else:
                    known.write(page, str(update))
            engine = known.engine
            for day in [0, 75, 150]:
                self.assertEqual([engine.read(page, day) for page in range(web.pages)], known.texts[day])
            self.check_changed(engine, known.texts, 30, 140)
            page = web.pages - 1
            self.assertEqual(engine.history(page)[-1][1], known.texts[-1][page])


class ReadingTest(EngineCase):
    def known(self):
        known = KnownEngine(Web(5, [(0, 1), (1, 2), (3, 2), (2, 4), (4, 0)]), 4, [0, 3])
        draw = drawn(116)
        for update in range(20):
            known.write(draw.choice([1, 2, 2, 4]), f"{update}")
        return known

    def test_no_day(self):
        engine = self.known().engine
        for day in [21, -1, 500]:
            self.assertEqual(self.refused(NoDay, engine.read, 0, day).day, day)
            self.assertEqual(self.refused(NoDay, engine.fork, day).day, day)
            for path in [[0], [], [9]]:
                self.assertEqual(self.refused(NoDay, engine.follow, path, day).day, day)
                self.assertEqual(self.refused(NoDay, engine.trail, path, day).day, day)
            self.assertEqual(self.refused(NoDay, engine.changed, 0, day).day, day)
            self.assertEqual(self.refused(NoDay, engine.changed, day, 77).day, day)

    def test_no_path(self):
        engine = self.known().engine
        for path, index in [([], 0), ([1], 0), ([2, 4], 0), ([9], 0), ([-1], 0), ([0, 0], 1), ([0, 2], 1), ([0, 9], 1),
                            ([3, 2, 1], 2), ([0, 1, 2, 4, 0, 1, 1, 7], 6), ([0, -4], 1), ([3, 1, 0, 2], 1)]:
            for day in [0, 20]:
                self.assertEqual(self.refused(NoPath, engine.follow, path, day).index, index)
                self.assertEqual(self.refused(NoPath, engine.trail, path, day).index, index)

    def test_long_paths(self):
        known = self.known()
        path = [3] + [2, 4, 0, 1] * 100
        for day in [0, 9, 20]:
            self.assertEqual(known.engine.follow(path, day), [known.texts[day][page] for page in path])
            self.check_trail(known.engine, path, day)

    def test_two_ways_to_a_page_show_the_same(self):
        engine = self.known().engine
        for day in engine.days():
            self.assertEqual(engine.trail([0, 1, 2], day)[-1], engine.trail([3, 2], day)[-1])

    def test_changed(self):
        known = self.known()
        for early in range(21):
            for late in [0, 5, 20, early]:
                self.check_changed(known.engine, known.texts, early, late)
        self.assertEqual(known.engine.changed(7, 7), [])

    def test_history_and_copy_days(self):
        known = self.known()
        self.check_histories(known.engine, known.texts)
        engine = Engine(Web.path(2), 2, ["a", "b"], [0])
        for text in ["c", "c", "b", "b", "d"]:
            engine.write_page(1, text)
        self.assertEqual(engine.history(1), [(0, "b"), (1, "c"), (3, "b"), (5, "d")])
        self.assertEqual([engine.history(0), engine.copy_days(0), engine.copy_days(1)], [[(0, "a")], [0], [0, 3]])


class ResumedTest(EngineCase):
    def test_goes_on_as_before(self):
        draw = drawn(117)
        for web in engine_webs():
            lines = greatest_degree(web)
            known = KnownEngine(web, lines, entries_for(draw, web))
            for update in range(40):
                if update % 8 == 3:
                    engine = known.engine
                    disk, cells, writes = engine.chest.disk, engine.chest.disk.cells(), engine.chest.disk.writes
                    again = Engine.resumed(disk)
                    self.assertIs(again.chest.disk, disk)
                    self.assertEqual([disk.cells(), disk.writes], [cells, writes])
                    self.assertTrue(again.web == web and again.standing == engine.standing)
                    self.assertEqual([again.today, again.entries(), again.days()],
                                     [engine.today, engine.entries(), engine.days()])
                    self.assertEqual(again.chest.stored(), engine.chest.stored())
                    known.engine = again
                self.check_write(known, draw.randrange(web.pages), str(update))
                self.assertLessEqual(len(known.engine.chest.stored()), web.pages + update + 1)
            self.check_days(known.engine, known.texts, [0, 3, 20, 40])
            self.check_histories(known.engine, known.texts)

    def test_of_a_copied_disk(self):
        known = KnownEngine(Web.ring(3), 2, [1])
        for update in range(7):
            known.write(update % 3, str(update))
        other = Engine.resumed(Disk(known.engine.chest.disk.cells()))
        self.check_days(other, known.texts)
        other.write_page(0, "only there")
        self.check_days(known.engine, known.texts)

    def test_with_the_allowance_of_the_disk(self):
        disk = Disk(Engine(Web.path(2), 2, ["a", "b"], [0]).chest.disk.cells())
        disk.allow(0)
        engine = Engine.resumed(disk)
        self.assertEqual([engine.read(1, 0), disk.allowance, disk.writes], ["b", 0, 0])
        self.assertEqual(self.refused(Stopped, engine.write_page, 1, "c").writes, 0)


class ForkTest(EngineCase):
    def test_first_middle_and_last_day(self):
        draw = drawn(118)
        for web in [Web.path(4), Web.ring(3), drawn_web(draw, 6, 14)]:
            known = KnownEngine(web, greatest_degree(web), entries_for(draw, web))
            for update in range(20):
                known.write(draw.randrange(web.pages), str(update))
            for day in [0, 9, 20]:
                self.check_fork(known, day)

    def check_fork(self, known, day):
        engine = known.engine
        cells, writes = engine.chest.disk.cells(), engine.chest.disk.writes
        fork = engine.fork(day)
        self.assertTrue(fork.web == engine.web)
        self.assertTrue(fork.standing == Standing.fresh(engine.web, engine.chest.lines))
        self.assertEqual([fork.entries(), fork.chest.lines], [engine.entries(), engine.chest.lines])
        self.check_days(fork, [known.texts[day]])
        other = KnownEngine(engine.web, engine.chest.lines, engine.entries())
        other.engine, other.texts = fork, [list(known.texts[day])]
        for update in range(12):
            self.check_write(other, update % engine.web.pages, f"fork {update}")
        self.check_days(fork, other.texts)
        self.assertEqual([engine.chest.disk.cells(), engine.chest.disk.writes], [cells, writes])
        fork_cells = fork.chest.disk.cells()
        known.write(0, f"after {day}")
        self.assertEqual(fork.chest.disk.cells(), fork_cells)
        self.check_days(engine, known.texts, [day, len(known.texts) - 1])


class StoppedTest(EngineCase):
    def test_at_each_write_of_an_update(self):
        web = Web(4, [(0, 3), (1, 3), (2, 3), (0, 1), (1, 2)])
        start = Engine(web, 4, ["a", "b", "c", "d"], [0])
        updates = []
        for update in range(30):
            disk = Disk(start.chest.disk.cells())
            engine = Engine.resumed(disk)
            engine.write_page(3, str(update))
            updates.append(disk.writes)
            for allowed in range(disk.writes):
                other = Disk(start.chest.disk.cells())
                stopped = Engine.resumed(other)
                other.allow(allowed)
                self.assertEqual(self.refused(Stopped, stopped.write_page, 3, str(update)).writes, allowed)
                self.assertEqual(other.read_cell(0), start.chest.disk.read_cell(0))
            other.allow(None)
            other.write_cell(len(other), "goes on")
            start = engine
        self.assertIn(2, updates)
        self.assertIn(5, updates)


if __name__ == "__main__":
    unittest.main()
