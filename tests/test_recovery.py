"""Points 37 and 61 to 63 and the interface of onecopy.recovery."""

import unittest

from onecopy.cells import Disk
from onecopy.chest import Chest
from onecopy.engine import Engine
from onecopy.errors import NoKey, Stopped
from onecopy.holds import Holds
from onecopy.keeper import copies_bound
from onecopy.recovery import mend, recover_engine, recover_store
from onecopy.store import Store
from onecopy.webs import Web
from tests.helpers import drawn, drawn_web, greatest_degree, two_way_star
from tests.plain import KnownStore
from tests.test_chest import LoggedDisk
from tests.test_engine import entries_for
from tests.test_store import busy_row


def told_by_chest(chest):
    """All that a chest tells, but for the addresses to come."""
    stored = chest.stored()
    pages = sorted({page for _, page, _ in stored})
    return [chest.lines, chest.today, chest.days(), stored, chest.entry_list(),
            [(page, chest.live(page), chest.blank_of(page)) for page in pages],
            [chest.look(address, day) for address, _, _ in stored for day in [*chest.days(), -1]],
            [chest.reached(day) for day in chest.days()]]


def told_by_engine(engine):
    pages = range(engine.web.pages)
    return [engine.web.arrows(), engine.entries(), engine.standing.blanks(), told_by_chest(engine.chest),
            [[engine.read(page, day) for page in pages] for day in engine.days()],
            [engine.history(page) for page in pages], [engine.chest.live(page) for page in pages]]


def told_by_store(store):
    chest, rows = store.chest, store.at(store.today).shape()
    return [store.size, store.standing.blanks(), store.standing.web.arrows(), chest.stored(), chest.days(),
            [(page, chest.live(page), chest.look(chest.live(page), chest.today)) for _, page, _ in rows],
            chest.reached(chest.days()[0]), [store.at(day).shape() for day in store.days()]]


class Kind:
    """An engine or a store: how it is resumed and recovered, and what it tells."""

    def __init__(self, resumed, recover, told):
        self.resumed, self.recover, self.told = resumed, recover, told


ENGINE = Kind(Engine.resumed, recover_engine, told_by_engine)
STORE = Kind(Store.resumed, recover_store, told_by_store)


def mended_chest(disk):
    mend(disk)
    return Chest(disk)


CHEST = Kind(Chest, mended_chest, told_by_chest)


def sweep(kept):
    def run(thing):
        holds = Holds(thing if isinstance(thing, Chest) else thing.chest)
        for day in kept:
            holds.hold_day(day)
        holds.sweep_copies()
    return run


class RecoveryCase(unittest.TestCase):
    def refused(self, error, call, *arguments):
        with self.assertRaises(error) as caught:
            call(*arguments)
        return caught.exception

    def stopped(self, kind, cells, call, allowed):
        """A disk on which the call was stopped after so many writes."""
        disk = LoggedDisk(cells)
        thing = kind.resumed(disk)
        disk.allow(allowed)
        self.assertEqual(self.refused(Stopped, call, thing).writes, allowed)
        self.assertEqual(disk.writes, allowed)
        disk.allow(None)
        return disk

    def check_stops(self, kind, cells, call):
        """Stop the call on the cells at each of its writes, and recover. Returns the cells after the whole call."""
        before = kind.told(kind.resumed(Disk(cells)))
        whole = LoggedDisk(cells)
        thing = kind.resumed(whole)
        call(thing)
        after = kind.told(kind.resumed(Disk(whole.cells())))
        self.assertEqual(kind.told(thing), after)
        effects = []
        for allowed in range(whole.writes):
            disk = self.stopped(kind, cells, call, allowed)
            effects.append(self.takes_effect(disk, len(cells), whole, allowed))
            self.check_recovery(kind, disk, after if effects[-1] else before, whole.cells())
        self.assertEqual(effects, sorted(effects))
        # A recovered disk on which nothing is to be done is not written.
        kept = Disk(whole.cells())
        kept.allow(0)
        self.assertEqual(kind.told(kind.recover(kept)), after)
        return whole.cells()

    def takes_effect(self, disk, length, whole, allowed):
        """Point 61, from the order of the writes."""
        written = whole.log[:allowed]
        if whole.log[0] == 1:
            return 1 in written
        size = disk.read_cell(0)[0] + 1
        records = [index for index in whole.log if index > 1 and (index - 2) % size == 0 and index >= length]
        return (records[-1] if records else whole.log[0]) in written

    def check_recovery(self, kind, disk, expected, whole):
        """Recover at once, and behind mends that are stopped at each of their own writes."""
        cells = disk.cells()
        once = LoggedDisk(cells)
        recovered = kind.recover(once)
        self.assertEqual(kind.told(recovered), expected)
        self.assertEqual(len(set(once.log)), len(once.log))
        self.check_removed(once, kind.resumed(once))
        self.assertLessEqual(len(cells), len(once))
        for allowed in range(once.writes):
            twice = Disk(cells)
            twice.allow(allowed)
            self.assertEqual(self.refused(Stopped, mend, twice).writes, allowed)
            twice.allow(once.writes - allowed)
            self.assertEqual(kind.told(kind.recover(twice)), expected)
            self.assertEqual([twice.cells(), twice.allowance], [once.cells(), 0])
            self.assertIsNone(mend(twice))
        disk.allow(once.writes + 7)
        thing = kind.recover(disk)
        self.assertEqual([kind.told(thing), disk.allowance, disk.cells()], [expected, 7, once.cells()])
        chest = thing if kind is CHEST else thing.chest
        self.assertIs(chest.disk, disk)

    def check_removed(self, disk, thing):
        """Every cell that belongs to no stored copy holds None."""
        chest = thing if isinstance(thing, Chest) else thing.chest
        stored, size = {address for address, _, _ in chest.stored()}, chest.lines + 1
        for index in range(2, len(disk)):
            if index - (index - 2) % size not in stored:
                self.assertIsNone(disk.read_cell(index))
        for address in stored:
            page, day = [row[1:] for row in chest.stored() if row[0] == address][0]
            self.assertLessEqual(day, chest.today)
        self.assertGreaterEqual(chest.next_address(), len(disk))


class ExamplesTest(RecoveryCase):
    def test_example(self):
        engine = Engine(Web.path(2), 2, ["a", "b"], [0])
        engine.chest.disk.allow(1)
        with self.assertRaises(Stopped):
            engine.write_page(1, "c")
        self.assertEqual(engine.chest.disk.allowance, 0)
        self.refused(Stopped, recover_engine, engine.chest.disk)
        engine.chest.disk.allow(None)
        again = recover_engine(engine.chest.disk)
        self.assertEqual([again.today, again.read(1, 1), again.standing.blanks()], [1, "c", [2, 1]])


class EnginesTest(RecoveryCase):
    def webs(self):
        draw = drawn(171)
        return [Web(1, []), Web.path(3), Web.ring(3), Web.ring(2), two_way_star(3), Web.path(3, two_way=True),
                Web(4, [(0, 3), (1, 3), (2, 3), (0, 1), (1, 2)]), drawn_web(draw, 6, 14)]

    def test_each_write_of_updates_and_sweeps(self):
        draw = drawn(172)
        sizes = set()
        for web in self.webs():
            engine = Engine(web, greatest_degree(web), [f"page {page}" for page in range(web.pages)],
                            entries_for(draw, web))
            cells = engine.chest.disk.cells()
            for update in range(14):
                for _ in range(3):
                    page = draw.randrange(web.pages)
                    before = len([cell for cell in cells if cell is not None])
                    cells = self.check_stops(ENGINE, cells, lambda thing: thing.write_page(page, f"{update}"))
                    sizes.add(len([cell for cell in cells if cell is not None]) - before)
                if update % 3 == 2:
                    days = Engine.resumed(Disk(cells)).days()
                    kept = draw.sample(days, min(len(days), draw.randint(0, 2)))
                    cells = self.check_stops(ENGINE, cells, sweep(kept))
        self.assertLessEqual({1, 2, 3}, sizes)

    def test_goes_on_for_many_updates(self):
        """Stopped and recovered again and again, the texts are those of the days that took effect."""
        draw = drawn(173)
        for web in self.webs():
            engine = Engine(web, greatest_degree(web), ["start"] * web.pages, entries_for(draw, web))
            texts, readable = [["start"] * web.pages], [0]
            for update in range(150):
                disk, today = engine.chest.disk, engine.today
                page, text = draw.randrange(web.pages), f"{update}"
                disk.allow(draw.choice([None, draw.randrange(6)]))
                try:
                    engine.write_page(page, text)
                    disk.allow(None)
                except Stopped:
                    disk = draw.choice([disk, Disk(disk.cells())])
                    engine = self.recovered(draw, disk)
                if engine.today > today:
                    texts.append([text if at == page else old for at, old in enumerate(texts[-1])])
                    readable.append(engine.today)
                if update % 20 == 19:
                    engine, readable = self.swept(draw, engine, readable)
                self.assertEqual(engine.days(), readable)
            self.assertGreater(engine.today, 60)
            for day in readable:
                self.assertEqual([engine.read(page, day) for page in range(web.pages)], texts[day])
            self.assertEqual(engine.standing.blanks(), [engine.chest.blank_of(page) for page in range(web.pages)])

    def recovered(self, draw, disk):
        """An engine behind mends that may be stopped themselves."""
        for _ in range(draw.randrange(3)):
            disk.allow(draw.randrange(3))
            try:
                mend(disk)
            except Stopped:
                pass
        disk.allow(None)
        return recover_engine(disk)

    def swept(self, draw, engine, readable):
        kept = draw.sample(readable, min(3, len(readable)))
        disk = engine.chest.disk
        allowed = draw.choice([None, draw.randrange(8)])
        disk.allow(allowed)
        try:
            sweep(kept)(engine)
            disk.allow(None)
        except Stopped:
            engine = self.recovered(draw, disk)
        return engine, readable if allowed == 0 else sorted({*kept, engine.today})

    def test_goes_on_as_a_keeper_that_begins_with_the_recovered_standing(self):
        draw = drawn(176)
        for web in self.webs():
            for lines in [greatest_degree(web), greatest_degree(web) + 2]:
                engine = Engine(web, lines, [""] * web.pages, entries_for(draw, web))
                for update in range(30):
                    engine.write_page(draw.randrange(web.pages), f"{update}")
                engine.chest.disk.allow(1)
                self.refused(Stopped, engine.write_page, 0, "stopped")
                engine.chest.disk.allow(None)
                engine = recover_engine(engine.chest.disk)
                start, stored = engine.standing, len(engine.chest.stored())
                for update in range(60):
                    before, page = engine.standing, draw.randrange(web.pages)
                    answer = engine.write_page(page, f"{update}")
                    self.assertTrue(engine.standing == before.after(page, *answer))
                    copies = len(engine.chest.stored()) - stored
                    self.assertLessEqual(copies, copies_bound(start, update + 1))


class StoresTest(RecoveryCase):
    def test_each_write_of_puts_drops_and_sweeps(self):
        draw = drawn(174)
        results = set()
        for seed in [742, 756]:
            size, row = busy_row(seed, 130)
            cells = Store(size, size + 1).chest.disk.cells()
            for at, key in enumerate(row):
                store = Store.resumed(Disk(cells))
                if key in store.at(store.today) and at % 5 == 4:
                    cells = self.check_stops(STORE, cells, lambda thing: thing.drop_key(key))
                elif at % 4 == 0 or at > 100:
                    results.add(store.put_key(key, "y"))
                    cells = self.check_stops(STORE, cells, lambda thing: thing.put_key(key, "y"))
                else:
                    store.put_key(key, "y")
                    cells = store.chest.disk.cells()
                if at % 13 == 12:
                    days = Store.resumed(Disk(cells)).days()
                    cells = self.check_stops(STORE, cells, sweep(draw.sample(days, min(len(days), 2))))
        self.assertLessEqual({(0, 1), (1, 0), (1, 1), (2, 1)}, results)

    def test_days_with_four_new_copies(self):
        """Both updates copy, or the top is divided behind a copy."""
        seen = set()
        for seed in [742, 0, 3, 201800]:
            size, row = busy_row(seed, 500)
            store = Store(size, size + 1)
            for key in row:
                cells = store.chest.disk.cells()
                result = store.put_key(key, "x")
                if result[0] >= 3 and sum(result) >= 5:
                    seen.add(result)
                    whole = self.check_stops(STORE, cells, lambda thing: thing.put_key(key, "x"))
                    self.assertEqual(whole, store.chest.disk.cells())
                if store.today % 10 == 0:
                    Holds(store.chest).sweep_copies()
        self.assertIn(4, {copies for copies, _ in seen})

    def test_goes_on_for_many_days(self):
        draw = drawn(175)
        for size, lines in [(4, 5), (5, 6), (7, 60)]:
            known = KnownStore(size, lines)
            readable = [0]
            for at in range(250):
                there = sorted(known.pairs[-1])
                key, text = draw.choice([draw.randrange(150), *there[:2]]), draw.choice([None, f"{at}", f"{at}"])
                text = f"{at}" if key not in there else text
                self.day_with_stops(draw, known, key, text)
                readable = [*readable, len(known.pairs) - 1]
                if at % 25 == 24:
                    readable = self.sweep_with_stops(draw, known, readable)
                readable = sorted(set(readable))
                self.assertEqual(known.store.days(), readable)
                known.check_shape(self)
            self.assertGreater(known.store.today, 150)
            known.check_pairs(self)

    def day_with_stops(self, draw, known, key, text):
        store, disk, today = known.store, known.store.chest.disk, known.store.today
        disk.allow(draw.choice([None, draw.randrange(7)]))
        try:
            if text is None:
                store.drop_key(key)
            else:
                store.put_key(key, text)
        except Stopped:
            disk.allow(None)
            known.store = recover_store(draw.choice([disk, Disk(disk.cells())]))
        known.store.chest.disk.allow(None)
        if known.store.today > today:
            known.pairs.append({one: old for one, old in known.pairs[-1].items() if one != key})
            if text is None:
                known.plain.drop(key)
            else:
                known.pairs[-1][key] = text
                known.plain.put(key, text)
        self.assertEqual(known.store.today, len(known.pairs) - 1)

    def sweep_with_stops(self, draw, known, readable):
        kept = draw.sample(readable, min(3, len(readable)))
        disk = known.store.chest.disk
        allowed = draw.choice([None, 0, draw.randrange(1, 30)])
        disk.allow(allowed)
        try:
            sweep(kept)(known.store)
        except Stopped:
            disk.allow(None)
            known.store = recover_store(disk)
        disk.allow(None)
        return readable if allowed == 0 else sorted({*kept, known.store.today})

    def test_a_day_that_does_not_take_effect_uses_up_no_numbers(self):
        for allowed in [0, 1, 2]:
            store = Store(4, 5)
            for key in [1, 2, 3, 4]:
                store.put_key(key, "x")
            store.chest.disk.allow(allowed)
            self.refused(Stopped, store.put_key, 5, "x")
            store.chest.disk.allow(None)
            again = recover_store(store.chest.disk)
            self.assertEqual(again.today, 4)
            first = again.chest.next_address()
            self.assertEqual(first, 8 + 6 * allowed)
            self.assertEqual(again.put_key(5, "x"), (3, 0))
            self.assertEqual([page for _, page, _ in again.at(5).shape()], [3, 1, 2])
            self.assertEqual([row[0] for row in again.chest.stored()[1:]], [first, first + 6, first + 12])
            self.assertEqual(self.refused(NoKey, again.drop_key, 9).key, 9)


class ChestsByHandTest(RecoveryCase):
    def cells(self):
        chest = Chest.begun(Disk(), 3, [(0, "a", [(1, 6)], 0), (1, "b", [], None), (2, "lost", [], None)])
        chest.commit_day([], [(2, "x", [])])
        return chest.disk.cells()

    def test_each_write_of_a_day(self):
        for fresh, notes in [
            ([], [(2, "y", [(1, 14)])]),
            ([], [(6, None, [])]),
            ([(1, "c", [], None)], []),
            ([(1, "c", [], None)], [(2, None, [(1, 14)]), (14, "z", []), (6, "old", []), (2, 5, [])]),
            ([(1, "c", [], 5), (1, "d", [], 5), (0, "e", [(1, 18)], 0)], [(18, "z", []), (22, None, [(1, None)])]),
            ([(3, "n", [], None), (4, "m", [], 4)], []),
        ]:
            self.check_stops(CHEST, self.cells(), lambda chest: chest.commit_day(fresh, notes))

    def test_an_unreachable_copy_stays_without_a_sweep(self):
        disk = Disk(self.cells())
        disk.allow(0)
        mend(disk)
        self.assertEqual([row[0] for row in Chest(disk).stored()], [2, 6, 10])
        alone = Chest.begun(Disk(), 3, [(2, "lost", [], None)])
        alone.disk.allow(0)
        self.assertIsNone(mend(alone.disk))
        self.assertEqual(Chest(alone.disk).stored(), [(2, 2, 0)])

    def test_each_write_of_a_sweep(self):
        chest = Chest(Disk(self.cells()))
        for text in "stu":
            chest.commit_day([(1, text, [], None)], [(chest.live(0), None, [(1, chest.next_address())])])
            chest.commit_day([], [(chest.live(1), text * 2, [])])
            chest = Chest(Disk(chest.disk.cells()))
            if text == "t":
                chest.commit_day([(0, "again", [(1, chest.live(1))], 0)], [(chest.live(1), "late", [])])
        for kept in [[], [0], [3], [0, 4, 6], chest.days()]:
            self.check_stops(CHEST, chest.disk.cells(), sweep(kept))

    def test_a_sweep_on_day_0(self):
        cells = Chest.begun(Disk(), 2, [(0, "a", [], 0), (1, "lost", [], None), (2, "lost", [], None)]).disk.cells()
        cells = self.check_stops(CHEST, cells, sweep([]))
        self.assertEqual([Chest(Disk(cells)).stored(), Chest(Disk(cells)).days()], [[(2, 0, 0)], [0]])
        chest = Chest(Disk(cells))
        chest.commit_day([(3, "new", [], None)], [])
        self.assertEqual([chest.days(), chest.live(3)], [[0, 1], 11])
        # What was written behind the sweep stays until the next one, reached or not.
        chest.disk.allow(0)
        mend(chest.disk)
        self.assertEqual(Chest(chest.disk).stored(), [(2, 0, 0), (11, 3, 1)])

    def test_lines_of_an_interrupted_sweep_are_cleared_ahead_of_the_record(self):
        chest = Chest.begun(LoggedDisk(), 3, [(0, "a", [], 0), (1, "lost", [], None)])
        for text in "xyz":
            chest.commit_day([], [(6, text, [])])
        for allowed in range(1, 5):
            disk = self.stopped(CHEST, chest.disk.cells(), sweep([0]), allowed)
            self.assertIsNotNone(disk.read_cell(6))
            disk.log.clear()
            mend(disk)
            self.assertEqual([disk.log[-1], len(disk.log), disk.cells()[6:]], [6, 5 - allowed, [None] * 4])

    def test_no_address_is_used_twice(self):
        for allowed in [1, 2]:
            chest = Chest(Disk(self.cells()))
            chest.disk.allow(allowed)
            new = [(5, "n", [], None), (6, "m", [], None), (7, "l", [], None)]
            self.refused(Stopped, chest.commit_day, new, [])
            chest.disk.allow(None)
            again = mended_chest(chest.disk)
            self.assertEqual([again.next_address(), again.today, len(again.stored())], [14 + 4 * allowed, 1, 3])
            self.assertEqual(mended_chest(Disk(chest.disk.cells())).next_address(), 14 + 4 * allowed)
            self.assertEqual(again.commit_day(new[:1], []), [14 + 4 * allowed])

    def test_the_allowance_may_end_in_a_mend(self):
        chest = Chest(Disk(self.cells()))
        chest.disk.allow(1)
        self.refused(Stopped, chest.commit_day, [(1, "c", [], None)], [(2, None, [(1, 14)])])
        for recover in [mend, recover_engine, recover_store]:
            disk = Disk(chest.disk.cells())
            disk.allow(0)
            self.assertEqual(self.refused(Stopped, recover, disk).writes, 0)
            disk.allow(1)
            self.assertEqual(self.refused(Stopped, recover, disk).writes, 1)


if __name__ == "__main__":
    unittest.main()
