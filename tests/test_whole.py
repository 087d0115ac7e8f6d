"""The whole program: what is written, held, swept, stopped, recovered and forked in turn, against plain records."""

import unittest

from onecopy.cells import Disk
from onecopy.engine import Engine
from onecopy.errors import NoDay, NotHeld, Stopped
from onecopy.holds import Holds, survey
from onecopy.recovery import mend, recover_engine, recover_store
from onecopy.store import Store
from onecopy.webs import Web
from tests.helpers import drawn, drawn_web, greatest_degree, two_way_star
from tests.plain import KnownStore
from tests.test_engine import entries_for


class Record:
    """What is readable and what is held, beside what each day showed."""

    def __init__(self, first):
        self.shown, self.readable, self.counts = [first], [0], {}

    def today(self):
        return len(self.shown) - 1

    def add_day(self, shown):
        self.shown.append(shown)
        self.readable.append(self.today())

    def sweep(self):
        self.readable = sorted({day for day in self.readable if day in self.counts} | {self.today()})


class WholeCase(unittest.TestCase):
    def refused(self, error, call, *arguments):
        with self.assertRaises(error) as caught:
            call(*arguments)
        return caught.exception

    def change_holds(self, draw, record, holds):
        day = draw.randrange(-1, record.today() + 2)
        if draw.random() < 0.5:
            if day in record.readable:
                holds.hold_day(day)
                record.counts[day] = record.counts.get(day, 0) + 1
            else:
                self.assertEqual(self.refused(NoDay, holds.hold_day, day).day, day)
        elif day in record.counts:
            holds.release_day(day)
            record.counts = {one: count - (one == day) for one, count in record.counts.items() if (one, count) != (day, 1)}
        else:
            self.assertEqual(self.refused(NotHeld, holds.release_day, day).day, day)
        self.assertEqual({one: holds.count_of(one) for one in holds.held()}, record.counts)

    def recovered(self, draw, recover, disk):
        """Recover, perhaps from a copy of the cells, and perhaps behind mends that are stopped."""
        disk = draw.choice([disk, Disk(disk.cells())])
        for _ in range(draw.randrange(3)):
            disk.allow(draw.randrange(4))
            try:
                mend(disk)
            except Stopped:
                pass
        disk.allow(None)
        thing = recover(disk)
        self.assertIs(thing.chest.disk, disk)
        holds = Holds(thing.chest)
        return thing, holds

    def hold_again(self, record, holds):
        """Holds are not on the disk: those of the days that are readable are made anew."""
        record.counts = {day: count for day, count in record.counts.items() if day in record.readable}
        for day, count in record.counts.items():
            for _ in range(count):
                holds.hold_day(day)

    def swept(self, draw, record, holds, disk):
        """Sweep, perhaps stopped. Returns whether it was stopped."""
        allowed = draw.choice([None, 0, 1, draw.randrange(40)])
        disk.allow(allowed)
        if allowed != 0:
            record.sweep()
        try:
            holds.sweep_copies()
        except Stopped:
            return True
        finally:
            disk.allow(None)
        record.sweep()
        return False


class EngineTest(WholeCase):
    def test_engines(self):
        draw = drawn(201)
        for web in [Web.path(4), Web.ring(4), two_way_star(3), drawn_web(draw, 7, 18), Web.of_parents([None, 0, 0, 1, 1])]:
            lines = greatest_degree(web) + draw.choice([0, 1])
            engine = Engine(web, lines, [f"page {page}" for page in range(web.pages)], entries_for(draw, web))
            self.run_engine(draw, engine, 160, 2)

    def run_engine(self, draw, engine, steps, forks):
        """Days, holds, sweeps, stops and forks in turn."""
        record = Record([engine.read(page, engine.today) for page in range(engine.web.pages)])
        holds = Holds(engine.chest)
        for step in range(steps):
            deed = draw.random()
            if deed < 0.6:
                stopped = self.write(draw, engine, record, step)
            elif deed < 0.9:
                stopped = False
                self.change_holds(draw, record, holds)
            else:
                stopped = self.swept(draw, record, holds, engine.chest.disk)
            if stopped or draw.random() < 0.03:
                engine, holds = self.recovered(draw, recover_engine, engine.chest.disk)
                if engine.today > record.today():
                    record.add_day(self.pending)
                self.hold_again(record, holds)
            self.check_engine(draw, engine, record, holds)
        if forks:
            day = draw.choice(record.readable)
            fork = engine.fork(day)
            cells = engine.chest.disk.cells()
            self.assertEqual([fork.read(page, 0) for page in range(engine.web.pages)], record.shown[day])
            self.run_engine(draw, fork, 30, forks - 1)
            self.assertEqual(engine.chest.disk.cells(), cells)
            self.check_engine(draw, engine, record, holds)

    def write(self, draw, engine, record, step):
        """Make an update, perhaps stopped. Returns whether it was stopped."""
        page, text = draw.randrange(engine.web.pages), draw.choice([f"{step}", "same", ""])
        self.pending = [text if at == page else old for at, old in enumerate(record.shown[-1])]
        engine.chest.disk.allow(draw.choice([None, None, draw.randrange(8)]))
        try:
            engine.write_page(page, text)
        except Stopped:
            return True
        finally:
            engine.chest.disk.allow(None)
        record.add_day(self.pending)
        return False

    def check_engine(self, draw, engine, record, holds):
        """The main promise of point 35."""
        web = engine.web
        self.assertEqual([engine.today, engine.days()], [record.today(), record.readable])
        self.assertEqual([engine.chest.blank_of(page) for page in range(web.pages)], engine.standing.blanks())
        path = [draw.choice(engine.entries())]
        while draw.random() < 0.8 and web.targets(path[-1]):
            path.append(draw.choice(web.targets(path[-1])))
        expected = [[record.shown[day][page] for page in path] for day in record.readable]
        self.assertEqual(survey(engine, holds, record.readable, path), expected)
        day = draw.choice(record.readable)
        self.assertEqual([engine.read(page, day) for page in range(web.pages)], record.shown[day])
        day = draw.randrange(record.today() + 1)
        if day not in record.readable:
            self.assertEqual(self.refused(NoDay, engine.read, path[0], day).day, day)
            self.assertEqual(self.refused(NoDay, survey, engine, holds, [day], path).day, day)


class StoreTest(WholeCase):
    def test_stores(self):
        draw = drawn(202)
        for size, lines in [(4, 5), (4, 6), (5, 6), (9, 10), (6, 60)]:
            known = KnownStore(size, lines)
            self.run_store(draw, known, 400, draw.choice([30, 200, 10 ** 39]))

    def run_store(self, draw, known, steps, keys):
        record = Record({})
        record.shown = known.pairs
        holds = Holds(known.store.chest)
        for step in range(steps):
            deed = draw.random()
            if deed < 0.75:
                stopped = self.make_day(draw, known, record, keys, step)
            elif deed < 0.95:
                stopped = False
                self.change_holds(draw, record, holds)
            else:
                stopped = self.swept(draw, record, holds, known.store.chest.disk)
            if stopped or draw.random() < 0.03:
                known.store, holds = self.recovered(draw, recover_store, known.store.chest.disk)
                if known.store.today > record.today():
                    self.take_effect(known, record)
                self.hold_again(record, holds)
            self.check_store(draw, known, record)
        known.check_pairs(self)

    def take_effect(self, known, record):
        key, text = self.pending
        known.pairs.append({one: old for one, old in known.pairs[-1].items() if one != key})
        if text is None:
            known.plain.drop(key)
        else:
            known.pairs[-1][key] = text
            known.plain.put(key, text)
        record.readable.append(record.today())

    def make_day(self, draw, known, record, keys, step):
        """Make a day, perhaps stopped. Returns whether it was stopped."""
        there = sorted(known.pairs[-1])
        if there and draw.random() < 0.25:
            self.pending = (draw.choice(there), None)
        else:
            self.pending = (draw.choice([draw.randrange(-keys, keys), *there[:2]]), f"{step}")
        store, (key, text) = known.store, self.pending
        store.chest.disk.allow(draw.choice([None, None, draw.randrange(10)]))
        try:
            result = store.drop_key(key) if text is None else store.put_key(key, text)
        except Stopped:
            return True
        finally:
            store.chest.disk.allow(None)
        self.assertLessEqual(max(result), 4)
        self.take_effect(known, record)
        return False

    def check_store(self, draw, known, record):
        """The main promise of point 55."""
        store = known.store
        self.assertEqual([store.today, store.days()], [record.today(), record.readable])
        known.check_shape(self)
        known.check_pairs(self, [draw.choice(record.readable), store.today])
        tables = known.plain.tables()
        self.assertEqual([store.chest.blank_of(table.page) for table in tables], store.standing.blanks())
        early, late = draw.choice(record.readable), draw.choice(record.readable)
        before, after = record.shown[early], record.shown[late]
        self.assertEqual(store.changed(early, late), [
            (key, before.get(key), after.get(key)) for key in sorted({**before, **after})
            if before.get(key) != after.get(key)])
        key = draw.choice([0, *before, *after])
        row = [(day, record.shown[day].get(key)) for day in record.readable]
        self.assertEqual(store.history(key),
                         [pair for at, pair in enumerate(row) if at == 0 or row[at - 1][1] != pair[1]])


class BothTest(WholeCase):
    def test_an_engine_and_a_store_have_nothing_in_common(self):
        store, engine = Store(4, 5), Engine(Web.path(3), 2, ["a", "b", "c"], [0])
        for at in range(40):
            store.put_key(at % 9, str(at))
            engine.write_page(at % 3, str(at))
        cells = engine.chest.disk.cells()
        Holds(store.chest).sweep_copies()
        self.assertEqual([engine.chest.disk.cells(), engine.read(0, 1), store.days()], [cells, "0", [40]])


if __name__ == "__main__":
    unittest.main()
