"""Points 58 to 60 and the interface of onecopy.holds."""

import unittest

from onecopy.cells import Disk
from onecopy.chest import Chest
from onecopy.engine import Engine
from onecopy.errors import NoCopy, NoDay, NoEntry, NoPage, NoPath, NotHeld
from onecopy.holds import Holds, survey
from onecopy.webs import Web
from tests.helpers import drawn, drawn_web, greatest_degree
from tests.plain import KnownStore
from tests.test_chest import LoggedDisk, PlainChest, drawn_day
from tests.test_engine import KnownEngine, engine_webs, entries_for
from tests.test_store import busy_row


def logged(chest):
    """A chest with the same cells on a disk that logs its writes."""
    return Chest(LoggedDisk(chest.disk.cells()))


class HoldsCase(unittest.TestCase):
    def refused(self, error, call, *arguments):
        with self.assertRaises(error) as caught:
            call(*arguments)
        return caught.exception

    def engine(self, days=40, seed=161):
        draw = drawn(seed)
        web = Web(5, [(0, 1), (1, 2), (3, 2), (2, 4), (4, 0)])
        known = KnownEngine(web, 3, [0, 3])
        for update in range(days):
            known.write(draw.randrange(5), f"{update}")
        return known

    def check_sweep(self, chest, kept, reached):
        """Points 59 and 60: sweep a chest by hand, of which the days "kept" are held. Returns the number."""
        stored, before, today = chest.stored(), chest.disk.cells(), chest.today
        chest.disk.log.clear()
        holds = Holds(chest)
        for day in kept:
            holds.hold_day(day)
        freed = holds.sweep_copies()
        days = sorted({*kept, today})
        stays = {one for day in days for one in reached(day)}
        removed = [row for row in stored if row[0] not in stays]
        self.assertEqual([freed, chest.stored()], [len(removed), [row for row in stored if row not in removed]])
        self.assertEqual([chest.days(), chest.today, holds.held()], [days, today, sorted(set(kept))])
        self.check_writes(chest, before, [address for address, _, _ in removed])
        return freed

    def check_writes(self, chest, before, removed):
        log, size = chest.disk.log, chest.lines + 1
        cleared = [index for index in range(2, len(before))
                   if index - (index - 2) % size in removed and before[index] is not None]
        self.assertEqual([log[0], sorted(log[1:])], [1, cleared])
        for index in log[1:]:
            self.assertIsNone(chest.disk.read_cell(index))
        for address in removed:
            # All lines of the copy stand ahead of its record.
            self.assertEqual([one for one in log if address <= one < address + size][-1], address)
        self.assertEqual(len(chest.disk), len(before))
        for index, content in enumerate(before):
            if index not in log:
                self.assertEqual(chest.disk.read_cell(index), content)


class CountsTest(HoldsCase):
    def test_counts_above_one(self):
        engine = self.engine().engine
        holds = Holds(engine.chest)
        self.assertIs(holds.chest, engine.chest)
        for day in [7, 3, 7, 40, 0, 7]:
            self.assertIsNone(holds.hold_day(day))
        self.assertEqual([holds.count_of(day) for day in [7, 3, 40, 0, 5, -1, 99]], [3, 1, 1, 1, 0, 0, 0])
        self.assertEqual(holds.held(), [0, 3, 7, 40])
        self.assertIsNone(holds.release_day(7))
        self.assertEqual([holds.count_of(7), holds.held()], [2, [0, 3, 7, 40]])
        holds.release_day(3)
        self.assertEqual([holds.count_of(3), holds.held()], [0, [0, 7, 40]])
        for day in [3, 5, -1, 99]:
            self.assertEqual(self.refused(NotHeld, holds.release_day, day).day, day)
        for day in [-1, 41, 99]:
            self.assertEqual(self.refused(NoDay, holds.hold_day, day).day, day)
        self.assertEqual([holds.count_of(41), holds.held()], [0, [0, 7, 40]])
        holds.held().append(9)
        self.assertEqual(holds.held(), [0, 7, 40])

    def test_held_twice_and_released_once(self):
        known = self.engine()
        holds = Holds(known.engine.chest)
        for day in [9, 9, 20]:
            holds.hold_day(day)
        holds.release_day(9)
        holds.release_day(20)
        holds.sweep_copies()
        self.assertEqual(known.engine.days(), [9, 40])
        holds.release_day(9)
        holds.sweep_copies()
        self.assertEqual(known.engine.days(), [40])

    def test_several_holds_of_one_chest(self):
        known = self.engine()
        first, second = Holds(known.engine.chest), Holds(known.engine.chest)
        first.hold_day(10)
        first.hold_day(12)
        second.hold_day(12)
        self.assertEqual([first.count_of(12), second.count_of(12), second.held()], [1, 1, [12]])
        second.sweep_copies()
        self.assertEqual(known.engine.days(), [12, 40])
        # Day 10 stays held, though it is not readable any more.
        self.assertEqual([first.held(), first.count_of(10)], [[10, 12], 1])
        self.assertEqual(self.refused(NoDay, first.hold_day, 10).day, 10)
        self.assertEqual(first.count_of(10), 1)
        known.write(1, "x")
        first.sweep_copies()
        self.assertEqual([known.engine.days(), first.held()], [[12, 41], [10, 12]])
        first.release_day(10)
        self.assertEqual(self.refused(NotHeld, first.release_day, 10).day, 10)
        self.assertEqual(self.refused(NotHeld, second.release_day, 10).day, 10)
        self.assertEqual(first.held(), [12])

    def test_the_present_day_is_held(self):
        known = self.engine(6)
        holds = Holds(known.engine.chest)
        holds.hold_day(6)
        holds.sweep_copies()
        self.assertEqual(known.engine.days(), [6])
        known.write(0, "x")
        known.write(0, "y")
        holds.sweep_copies()
        self.assertEqual(known.engine.days(), [6, 8])
        self.assertEqual([known.engine.read(page, 6) for page in range(5)], known.texts[6])


class ChestsByHandTest(HoldsCase):
    def test_without_entries_everything_goes(self):
        chest = logged(Chest.begun(Disk(), 2, [(0, "a", [(1, 5)], None), (1, "b", [], None)]))
        chest.commit_day([], [(5, "x", [])])
        self.assertEqual(self.check_sweep(chest, [0], lambda day: []), 2)
        self.assertEqual([chest.stored(), chest.entry_list(), chest.next_address()], [[], [], 8])
        self.assertEqual([chest.reached(0), chest.reached(1), chest.days()], [[], [], [0, 1]])
        for page in [0, 1]:
            self.assertEqual(self.refused(NoPage, chest.live, page).page, page)
        self.assertEqual(self.refused(NoCopy, chest.look, 2, 0).address, 2)
        self.assertEqual(chest.commit_day([(0, "c", [], 4)], [(8, "y", [])]), [8])
        self.assertEqual([chest.look(8, 2), chest.days()], [(0, "c", [(2, "y")], []), [0, 1, 2]])

    def test_links_to_removed_copies_and_entries(self):
        chest = logged(Chest.begun(Disk(), 3, [
            (0, "a", [(1, 6)], 0), (1, "b", [], None), (2, "c", [(0, 2)], 7), (3, "d", [], None)]))
        chest.commit_day([(2, "cc", [], 7)], [(2, "x", [(1, None)])])
        self.assertEqual(self.check_sweep(chest, [], {1: [2, 18]}.get), 3)
        self.assertEqual([chest.stored(), chest.entry_list()], [[(2, 0, 0), (18, 2, 1)], [0, 7]])
        self.assertEqual([chest.live(0), chest.live(2), chest.blank_of(0), chest.next_address()], [2, 18, 2, 22])
        self.assertEqual(chest.look(2, 0), (0, "a", [], [(1, 6)]))
        self.assertEqual(self.refused(NoEntry, chest.entry_address, 9, 1).entry, 9)
        self.assertEqual(self.refused(NoDay, chest.entry_address, 9, 0).day, 0)
        # A later link to a removed copy is passed over.
        chest.commit_day([], [(2, None, [(1, 6), (3, 14)])])
        self.assertEqual(chest.reached(2), [2, 18])
        self.assertEqual(self.check_sweep(chest, [1], {1: [2, 18], 2: [2, 18]}.get), 0)

    def test_an_older_copy_is_live_once_the_last_one_is_removed(self):
        chest = logged(Chest.begun(Disk(), 1, [(0, "a", [(1, 4)], 0), (1, "b", [], None)]))
        chest.commit_day([(1, "lost", [], None)], [])
        self.assertEqual(chest.live(1), 6)
        self.assertEqual(self.check_sweep(chest, [0], {0: [2, 4], 1: [2, 4]}.get), 1)
        self.assertEqual([chest.live(1), Chest(chest.disk).live(1), chest.next_address()], [4, 4, 8])

    def test_drawn_chests(self):
        draw = drawn(162)
        for lines in [0, 1, 2, 4]:
            fresh = [(page, str(page), [], draw.choice([None, 0, 1])) for page in range(4)]
            plain = PlainChest(lines, fresh)
            chest, readable = Chest.begun(LoggedDisk(), lines, fresh), [0]
            for _ in range(12):
                for _ in range(draw.randint(0, 4)):
                    new, notes = drawn_day(draw, plain, 6)
                    if new or notes:
                        self.assertEqual(chest.commit_day(new, notes), plain.commit(new, notes))
                        readable.append(plain.day)
                kept = draw.sample(readable[:-1], min(len(readable) - 1, draw.randint(0, 3)))
                self.check_sweep(chest, kept, plain.reached)
                readable = sorted({*kept, plain.day})
                addresses = [address for address, _, _ in chest.stored()]
                plain.copies = [copy for copy in plain.copies if copy["address"] in addresses]
                self.check_told(chest, plain, readable)
                self.check_told(Chest(Disk(chest.disk.cells())), plain, readable)

    def check_told(self, chest, plain, readable):
        self.assertEqual([chest.days(), chest.next_address()], [readable, plain.next])
        for page, copy in plain.live().items():
            self.assertEqual(chest.live(page), copy["address"])
            self.assertEqual(chest.blank_of(page), plain.lines - len(copy["lines"]))
        for day in range(-1, plain.day + 2):
            for copy in plain.copies:
                self.assertEqual(chest.look(copy["address"], day), plain.look(copy, day))
            if day in readable:
                self.assertEqual(chest.reached(day), plain.reached(day))
                for number in {copy["entry"] for copy in plain.copies} - {None}:
                    if number in plain.entries(day):
                        self.assertEqual(chest.entry_address(number, day), plain.entries(day)[number])
                    else:
                        self.refused(NoEntry, chest.entry_address, number, day)
            else:
                self.assertEqual(self.refused(NoDay, chest.reached, day).day, day)
                self.assertEqual(self.refused(NoDay, chest.entry_address, 0, day).day, day)


class EnginesTest(HoldsCase):
    def test_sweeps_of_engines(self):
        draw = drawn(163)
        for web in [*engine_webs()[:8], drawn_web(draw, 12, 30)]:
            known = KnownEngine(web, greatest_degree(web), entries_for(draw, web))
            known.engine = Engine.resumed(LoggedDisk(known.engine.chest.disk.cells()))
            engine, readable, seen = known.engine, [0], {}
            for _ in range(6):
                for _ in range(draw.randint(0, 15)):
                    known.write(draw.randrange(web.pages), draw.choice(["same", str(engine.today)]))
                    readable.append(engine.today)
                self.note_addresses(engine, seen)
                kept = draw.sample(readable[:-1], min(len(readable) - 1, draw.randint(0, 4)))
                standing, live = engine.standing, [engine.chest.live(page) for page in range(web.pages)]
                self.check_sweep(engine.chest, kept, lambda day: {
                    one for page in range(web.pages) for one in engine.trail(self.way(engine, page), day)})
                readable = sorted({*kept, engine.today})
                self.assertTrue(engine.standing == standing)
                self.assertEqual([engine.chest.live(page) for page in range(web.pages)], live)
                self.check_engine(engine, known.texts, readable)
                self.check_engine(Engine.resumed(Disk(engine.chest.disk.cells())), known.texts, readable)
                for page in range(web.pages):
                    self.assertLessEqual(len(engine.copy_days(page)), len(readable))
            self.check_second_sweep(engine)

    def check_second_sweep(self, engine):
        """With no day held one copy of each page stays, and a second sweep writes one cell."""
        stored = len(engine.chest.stored())
        self.assertEqual(Holds(engine.chest).sweep_copies(), stored - engine.web.pages)
        writes = engine.chest.disk.writes
        self.assertEqual(Holds(engine.chest).sweep_copies(), 0)
        self.assertEqual([engine.chest.disk.writes, engine.chest.disk.log[-1]], [writes + 1, 1])

    def note_addresses(self, engine, seen):
        """No address is used twice, though copies are removed."""
        for address, page, day in engine.chest.stored():
            self.assertEqual(seen.setdefault(address, (page, day)), (page, day))

    def way(self, engine, page):
        paths = [[entry] for entry in engine.entries()]
        for path in paths:
            if path[-1] == page:
                return path
            paths += [[*path, target] for target in engine.web.targets(path[-1]) if target not in path]

    def check_engine(self, engine, texts, readable):
        pages = range(engine.web.pages)
        self.assertEqual(engine.days(), readable)
        for day in readable:
            self.assertEqual([engine.read(page, day) for page in pages], texts[day])
            self.assertEqual([engine.follow(self.way(engine, page), day)[-1] for page in pages], texts[day])
        for page in pages:
            row = [(day, texts[day][page]) for day in readable]
            self.assertEqual(engine.history(page),
                             [pair for at, pair in enumerate(row) if at == 0 or row[at - 1][1] != pair[1]])
        for day in set(range(-1, engine.today + 2)) - set(readable):
            for call in [lambda: engine.read(0, day), lambda: engine.follow(engine.entries()[:1], day),
                         lambda: engine.trail(engine.entries()[:1], day), lambda: engine.fork(day),
                         lambda: engine.changed(day, 10 ** 9), lambda: engine.changed(engine.today, day),
                         lambda: engine.chest.reached(day), lambda: engine.chest.entry_address(engine.entries()[0], day),
                         lambda: Holds(engine.chest).hold_day(day), lambda: engine.follow([], day)]:
                self.assertEqual(self.refused(NoDay, call).day, day)
        early = readable[0]
        self.assertEqual(engine.changed(early, engine.today), [
            (page, texts[early][page], texts[-1][page]) for page in pages if texts[early][page] != texts[-1][page]])


class StoresTest(HoldsCase):
    def test_sweeps_of_stores(self):
        draw = drawn(164)
        for size, lines in [(4, 5), (5, 6), (6, 60)]:
            known = KnownStore(size, lines)
            readable = [0]
            for at in range(14):
                for _ in range(draw.randint(0, 30)):
                    there = sorted(known.pairs[-1])
                    if there and draw.random() < 0.2:
                        known.checked_day(self, draw.choice(there), None)
                    else:
                        known.checked_day(self, draw.choice([draw.randrange(200), *there[-3:]]), f"{at}")
                    known.check_shape(self)
                    readable.append(known.store.today)
                kept = draw.sample(readable[:-1], min(len(readable) - 1, draw.randint(0, 4)))
                readable = sorted({*kept, known.store.today})
                self.sweep(known, kept)
                self.check_store(known, readable)

    def sweep(self, known, kept):
        store = known.store
        told = [store.standing.blanks(), store.today, store.chest.next_address(), len(store.chest.disk)]
        trails = {(day, key): store.at(day).trail(key) for day in kept for key in [0, 50, 199]}
        reached = {one for day in [*kept, store.today] for one in store.chest.reached(day)}
        stored = store.chest.stored()
        holds = Holds(store.chest)
        for day in kept:
            holds.hold_day(day)
        self.assertEqual(holds.sweep_copies(), len(stored) - len(reached))
        self.assertEqual(store.chest.stored(), [row for row in stored if row[0] in reached])
        self.assertEqual(told, [store.standing.blanks(), store.today, store.chest.next_address(), len(store.chest.disk)])
        for (day, key), trail in trails.items():
            self.assertEqual(store.at(day).trail(key), trail)
        for page in {page for _, page, _ in stored}:
            self.assertLessEqual(len([one for one in store.chest.stored() if one[1] == page]), len(kept) + 1)

    def check_store(self, known, readable):
        store = known.store
        self.assertEqual(store.days(), readable)
        known.check_pairs(self)
        for key in [0, 7, 199]:
            row = [(day, known.pairs[day].get(key)) for day in readable]
            self.assertEqual(store.history(key),
                             [pair for at, pair in enumerate(row) if at == 0 or row[at - 1][1] != pair[1]])
        for day in set(range(-1, store.today + 2)) - set(readable):
            for call in [lambda: store.at(day), lambda: store.changed(day, -7), lambda: store.changed(store.today, day)]:
                self.assertEqual(self.refused(NoDay, call).day, day)
        early = readable[0]
        before, after = known.pairs[early], known.pairs[-1]
        self.assertEqual(store.changed(early, store.today), [
            (key, before.get(key), after.get(key)) for key in sorted({**before, **after})
            if before.get(key) != after.get(key)])

    def test_a_copy_that_was_given_up_stays_until_a_sweep(self):
        size, row = busy_row(18, 500)
        known, given_up = KnownStore(size, size + 1), []
        for key in row:
            stored = known.store.chest.stored()
            known.put(key, "x")
            after = [page for _, page, _ in known.store.at(known.store.today).shape()]
            given_up += [one for one in known.store.chest.stored()[len(stored):] if one[1] not in after]
        self.assertGreater(len(given_up), 0)
        self.assertLessEqual(set(given_up), set(known.store.chest.stored()))
        Holds(known.store.chest).sweep_copies()
        self.assertFalse(set(given_up) & set(known.store.chest.stored()))
        known.check_pairs(self)


class SurveyTest(HoldsCase):
    def held_counts(self, holds):
        return {day: holds.count_of(day) for day in range(-2, 60)}

    def test_results(self):
        known = self.engine()
        holds = Holds(known.engine.chest)
        holds.hold_day(5)
        holds.hold_day(5)
        counts = self.held_counts(holds)
        days, path = [5, 0, 40, 5, 17], [0, 1, 2]
        found = survey(known.engine, holds, days, path)
        self.assertEqual(found, [[known.texts[day][page] for page in path] for day in days])
        self.assertEqual([days, path, self.held_counts(holds)], [[5, 0, 40, 5, 17], [0, 1, 2], counts])
        self.assertEqual([survey(known.engine, holds, [], []), self.held_counts(holds)], [[], counts])
        found[0].clear()
        self.assertEqual(survey(known.engine, holds, [5], path), [[known.texts[5][page] for page in path]])

    def test_no_day_before_a_path_is_read(self):
        known = self.engine()
        holds = Holds(known.engine.chest)
        holds.hold_day(7)
        holds.hold_day(30)
        holds.hold_day(30)
        Holds(known.engine.chest).sweep_copies()
        counts = self.held_counts(holds)
        for days, path, day in [([40, 30], [0], 30), ([41, 30], [], 41), ([40, -1, 99], [0, 0], -1), ([7], [0], 7)]:
            self.assertEqual(self.refused(NoDay, survey, known.engine, holds, days, path).day, day)
            self.assertEqual(self.held_counts(holds), counts)
        for path, index in [([], 0), ([1], 0), ([0, 2], 1), ([0, 1, 7], 2)]:
            self.assertEqual(self.refused(NoPath, survey, known.engine, holds, [40, 40], path).index, index)
            self.assertEqual(self.held_counts(holds), counts)

    def test_the_days_are_held_while_they_are_read(self):
        known = self.engine()
        holds = Holds(known.engine.chest)
        seen, follow = [], known.engine.follow

        def watched(path, day):
            seen.append([holds.held(), holds.count_of(3)])
            return follow(path, day)

        known.engine.follow = watched
        survey(known.engine, holds, [3, 8, 3], [0])
        self.assertEqual([seen, holds.held()], [[[[3, 8], 2]] * 3, []])


if __name__ == "__main__":
    unittest.main()
