"""Points 51 to 56, 37 (of stores) and the interface of onecopy.store."""

import unittest

from onecopy.cells import Disk
from onecopy.chest import Chest
from onecopy.errors import NoDay, NoKey, Stopped, TooFewLines
from onecopy.standings import Standing
from onecopy.store import Store
from onecopy.views import View
from onecopy.webs import Web
from tests.helpers import drawn
from tests.plain import KnownStore

# Drawn rows with which rare days come: the seed of the row, and what comes in it.
RARE_ROWS = [
    (742, "both updates copy"), (756, "both updates copy"), (845, "both updates copy"),
    (201800, "the parent is copied first"), (203047, "the parent is copied first"),
    (302368, "the parent is copied first"), (121, "a top is given up"), (152, "a top is given up"),
    (18, "a copy is given up"), (29, "a copy is given up"), (2, "second update copies"),
]


def busy_row(seed, length):
    """The size and the keys of a row in which a few neighbouring keys are put again and again."""
    draw = drawn(seed)
    size, keys, row = draw.choice([4, 4, 4, 5]), [], []
    for _ in range(length):
        if keys and draw.random() < 0.8:
            near = sorted(keys)
            middle, width = draw.randrange(len(near)), draw.choice([1, 2, 6])
            key = draw.choice(near[max(0, middle - width):middle + width])
        else:
            key = draw.randrange(400)
            if key not in keys:
                keys.append(key)
        row.append(key)
    return size, row


def keys_of_kind(kind, draw, at):
    return {"ascending": at, "descending": -at, "mixed": draw.randint(-10 ** 40, 10 ** 40),
            "few": draw.randrange(12), "many": draw.randrange(-500, 500)}[kind]


class StoreCase(unittest.TestCase):
    def refused(self, error, call, *arguments):
        with self.assertRaises(error) as caught:
            call(*arguments)
        return caught.exception

    def told(self, store):
        return [store.size, store.today, store.days(), store.standing.blanks(), store.standing.web.arrows(),
                store.chest.stored(), store.chest.next_address(), store.chest.disk.cells(), store.chest.disk.writes,
                store.at(store.today).shape()]

    def check_histories(self, known, keys):
        for key in keys:
            row = [(day, known.pairs[day].get(key)) for day in known.store.days()]
            expected = [pair for at, pair in enumerate(row) if at == 0 or row[at - 1][1] != pair[1]]
            self.assertEqual(known.store.history(key), expected)

    def check_changed(self, known, early, late):
        before, after = known.pairs[early], known.pairs[late]
        self.assertEqual(known.store.changed(early, late), [
            (key, before.get(key), after.get(key)) for key in sorted({**before, **after})
            if before.get(key) != after.get(key)])


class ExamplesTest(StoreCase):
    def test_example(self):
        store = Store(4, 6)
        first = [store.put_key(5, "e"), store.put_key(3, "c"), store.put_key(9, "i"), store.put_key(7, "g")]
        self.assertEqual(
            [first[0], store.put_key(1, "a"), store.at(5).shape(), 9 in store.at(2), len(store.at(3))],
            [(0, 1), (3, 0), [(0, 3, [5]), (1, 1, [(1, "a"), (3, "c")]), (1, 2, [(5, "e"), (7, "g"), (9, "i")])],
             False, 3])


class MadeStoresTest(StoreCase):
    def test_day_0(self):
        for size, lines in [(4, 5), (4, 60), (7, 9), (40, 41)]:
            store = Store(size, lines)
            self.assertIsInstance(store.chest, Chest)
            self.assertEqual([store.size, store.chest.lines, store.today, store.days()], [size, lines, 0, [0]])
            self.assertTrue(store.standing == Standing.fresh(Web(1, []), lines))
            self.assertEqual([store.at(0).shape(), store.chest.stored()], [[(0, 0, [])], [(2, 0, 0)]])
            self.assertEqual([store.chest.entry_list(), store.chest.reached(0)], [[0], [2]])
            self.assertEqual(store.history(5), [(0, None)])

    def test_too_few_lines(self):
        for size, lines in [(4, 4), (4, 0), (40, 40), (10, 9)]:
            self.assertEqual(self.refused(TooFewLines, Store, size, lines).page, 0)


class DaysTest(StoreCase):
    def test_rows_of_every_kind(self):
        draw = drawn(141)
        for size in [4, 5, 6, 9]:
            for lines in [size + 1, size + 2, 60]:
                for kind in ["ascending", "descending", "mixed", "few", "many"]:
                    known = KnownStore(size, lines)
                    drops = draw.choice([0, 0.2, 0.5])
                    for at in range(45):
                        there = sorted(known.pairs[-1])
                        if there and draw.random() < drops:
                            known.checked_day(self, draw.choice(there), None)
                        else:
                            known.checked_day(self, keys_of_kind(kind, draw, at), draw.choice(["", f"text {at}"]))
                        known.check_shape(self)
                    known.check_pairs(self)

    def test_long_row(self):
        draw, known = drawn(142), KnownStore(4, 5)
        for at in range(700):
            there = sorted(known.pairs[-1])
            if there and draw.random() < 0.3:
                known.drop(draw.choice(there))
            else:
                known.put(draw.choice([draw.randrange(300), *there[-3:]]), f"{at}")
            if at % 50 == 49:
                known.check_shape(self)
                known.check_pairs(self, [0, at // 3, at, at + 1])
        known.check_pairs(self)
        self.check_histories(known, [0, 7, 299, 400, *sorted(known.pairs[-1])[:9]])

    def test_wide_stores(self):
        for size, lines in [(40, 41), (40, 60), (20, 21)]:
            known = KnownStore(size, lines)
            for at in range(900):
                known.put((at * 389) % 1000, str(at))
            known.check_shape(self)
            known.check_pairs(self, [0, 40, 41, 500, 899, 900])
            self.check_fill(known.store)

    def test_rare_days(self):
        for seed, word in RARE_ROWS:
            size, row = busy_row(seed, 500)
            known = KnownStore(size, size + 1)
            for key in row:
                known.checked_day(self, key, "x")
                if word in known.seen and known.store.today % 7 == 0:
                    break
            self.assertIn(word, known.seen)
            known.check_shape(self)
            known.check_pairs(self)

    def test_top_that_is_given_up(self):
        # On the day of a division of the top the update of the leaf has copied the top, too.
        size, row = busy_row(121, 400)
        known, seen = KnownStore(size, size + 1), 0
        for key in row:
            before = known.store.chest.entry_address(0, known.store.today)
            top = known.store.chest.look(before, known.store.today)[0]
            stored = len(known.store.chest.stored())
            result = known.put(key, "x")
            added = [page for _, page, _ in known.store.chest.stored()[stored:]]
            if result[0] == 4 and added[0] == top:
                seen += 1
                self.assertEqual(known.store.chest.entry_address(0, known.store.today),
                                 known.store.chest.stored()[-1][0])
                known.check_pairs(self, [known.store.today - 1, known.store.today])
        self.assertGreater(seen, 0)

    def test_a_text_that_is_there_makes_a_day(self):
        known = KnownStore(4, 5)
        for _ in range(14):
            known.checked_day(self, 3, "same")
        self.assertEqual([known.store.today, known.store.history(3)], [14, [(0, None), (1, "same")]])
        known.checked_day(self, 3, "")
        self.assertEqual(known.store.get(3), "")
        self.assertEqual(known.store.history(3), [(0, None), (1, "same"), (15, "")])

    def test_no_key_makes_no_day(self):
        known = KnownStore(4, 5)
        for key in [5, 1, 9, 3, 7, 11]:
            known.put(key, "x")
        known.drop(7)
        told = self.told(known.store)
        for key in [7, 0, -1, 10 ** 40, 6]:
            self.assertEqual(self.refused(NoKey, known.store.drop_key, key).key, key)
            self.assertEqual(self.refused(NoKey, known.store.get, key).key, key)
            self.assertEqual(self.told(known.store), told)
        self.assertEqual(self.refused(NoKey, Store(4, 5).drop_key, 0).key, 0)

    def test_a_leaf_that_was_just_updated_is_divided(self):
        for lines in [5, 6]:
            known = KnownStore(4, lines)
            for key in [1, 2, 3, 4]:
                known.checked_day(self, key, "x")
            known.checked_day(self, 2, "y")
            known.checked_day(self, 5, "z")
            known.checked_day(self, 6, "z")
            known.checked_day(self, 6, "zz")
            known.checked_day(self, 7, "z")
            self.assertEqual(len(known.store.at(known.store.today).shape()), 4)
            known.check_shape(self)
            known.check_pairs(self)

    def test_leaves_without_pairs(self):
        known = KnownStore(4, 5)
        for key in range(9):
            known.checked_day(self, key, "x")
        for key in [0, 1, 4, 5, 2, 3, 8, 7, 6]:
            known.checked_day(self, key, None)
            known.check_shape(self)
        self.assertIn((1, 1, []), known.store.at(known.store.today).shape())
        self.assertEqual(len(known.store.at(known.store.today)), 0)
        for key in [8, 0, 3]:
            known.checked_day(self, key, "again")
        known.check_pairs(self)
        alone = Store(4, 5)
        alone.put_key(1, "a")
        self.assertEqual([alone.drop_key(1), alone.at(2).shape()], [(0, 1), [(0, 0, [])]])

    def test_numbers_of_pages_at_an_inner_table_and_at_the_top(self):
        known = KnownStore(4, 60)
        kinds = set()
        for at in range(120):
            before = {page: depth for depth, page, _ in known.store.at(at).shape()}
            result = known.put(at, "x")
            rows = known.store.at(at + 1).shape()
            new = sorted(page for _, page, _ in rows if page not in before)
            self.assertEqual(new, list(range(max(before) + 1, max(before) + 1 + len(new))))
            if new:
                depth = {page: depth for depth, page, _ in rows}
                leaf = isinstance([things for _, page, things in rows if page == new[0]][0][0], tuple)
                kinds.add((leaf, len(new)))
                self.assertEqual([page for _, page, _ in rows if page in new[:2]], new[:2])
                self.assertEqual([depth[page] for page in new[2:]], [0] * (len(new) - 2))
                self.assertGreaterEqual(result[0], len(new))
        self.assertEqual(kinds, {(True, 2), (True, 3), (False, 2), (False, 3)})

    def test_shape_depends_on_size_and_calls_only(self):
        draw = drawn(143)
        stores = [Store(5, 6), Store(5, 9), Store(5, 60)]
        for at in range(250):
            key = draw.randrange(150)
            there = key in stores[0].at(at)
            for store in stores:
                if there and at % 3 == 0:
                    store.drop_key(key)
                else:
                    store.put_key(key, str(at))
            if at % 5 == 0:
                stores[1] = Store.resumed(stores[1].chest.disk)
            shapes = [store.at(store.today).shape() for store in stores]
            self.assertEqual(shapes, [shapes[0]] * 3)

    def test_least_fill_without_drops(self):
        draw = drawn(144)
        for size in [4, 5, 6, 7, 11]:
            for kind in ["ascending", "descending", "many"]:
                store = Store(size, size + 1)
                for at in range(220):
                    store.put_key(keys_of_kind(kind, draw, at), "x")
                self.check_fill(store)

    def check_fill(self, store):
        """Point 56."""
        rows, size = store.at(store.today).shape(), store.size
        self.assertGreater(len(rows), 2)
        self.assertGreaterEqual(len(rows[0][2]), 1)
        for _, _, things in rows[1:]:
            if isinstance(things[0] if things else 0, tuple):
                self.assertGreaterEqual(len(things), (size + 1) // 2)
            else:
                self.assertGreaterEqual(len(things) + 1, (size + 2) // 4)

    def test_keys_of_forty_digits_and_below_0(self):
        known = KnownStore(4, 5)
        for key in [10 ** 40 - 1, 1 - 10 ** 40, 0, -1, 1, 10 ** 39, -10 ** 39]:
            known.checked_day(self, key, str(key))
        known.check_shape(self)
        known.check_pairs(self)


class StandingTest(StoreCase):
    def test_standing_and_its_web(self):
        draw, known = drawn(145), KnownStore(4, 5)
        for _ in range(120):
            known.put(draw.randrange(60), "x")
            standing = known.store.standing
            tables = known.plain.tables()
            index = {table.page: at for at, table in enumerate(tables)}
            self.assertEqual([standing.lines, standing.web.pages], [5, len(tables)])
            self.assertEqual(standing.web.arrows(), sorted((index[a], index[b]) for a, b in known.plain.pointers()))
            self.assertEqual(standing.blanks(), [known.store.chest.blank_of(table.page) for table in tables])

    def test_standing_is_read_only(self):
        known = KnownStore(4, 5)
        for key in range(30):
            known.put(key, "x")
        told = self.told(known.store)
        known.store.standing.blanks().clear()
        self.assertEqual(self.told(known.store), told)


class ReadingTest(StoreCase):
    def known(self, days=90):
        draw, known = drawn(146), KnownStore(4, 6)
        for at in range(days):
            there = sorted(known.pairs[-1])
            if there and draw.random() < 0.35:
                known.drop(draw.choice(there))
            else:
                known.put(draw.randrange(40), f"{at}" if at % 3 else "same")
        return known

    def test_get_and_at(self):
        known = self.known()
        for key in range(-1, 42):
            if key in known.pairs[-1]:
                self.assertEqual(known.store.get(key), known.pairs[-1][key])
            else:
                self.assertEqual(self.refused(NoKey, known.store.get, key).key, key)
        self.assertIsInstance(known.store.at(4), View)
        self.assertEqual([known.store.at(4).day, known.store.days()], [4, list(range(91))])
        for day in [-1, 91, 400]:
            self.assertEqual(self.refused(NoDay, known.store.at, day).day, day)

    def test_changed(self):
        known = self.known()
        for early in [0, 1, 17, 45, 89, 90]:
            for late in [0, 2, 17, 44, 90]:
                self.check_changed(known, early, late)
        self.assertEqual(known.store.changed(30, 30), [])
        for early, late, day in [(91, 99, 91), (-1, 0, -1), (0, 91, 91), (3, -2, -2), (-5, 99, -5)]:
            self.assertEqual(self.refused(NoDay, known.store.changed, early, late).day, day)

    def test_history(self):
        known = self.known()
        self.check_histories(known, range(-1, 42))
        store = Store(4, 5)
        for text in ["a", None, "b", "b", None, "b"]:
            if text is None:
                store.drop_key(2)
            else:
                store.put_key(2, text)
        self.assertEqual(store.history(2), [(0, None), (1, "a"), (2, None), (3, "b"), (5, None), (6, "b")])

    def test_lists_are_copied(self):
        known = self.known(40)
        store = known.store
        told = [self.told(store), store.changed(0, 40), store.history(3)]
        for rows in [store.days(), store.changed(0, 40), store.history(3), store.at(40).shape(),
                     *[row[2] for row in store.at(40).shape()], store.at(40).trail(3), store.chest.disk.cells()]:
            rows.clear()
        self.assertEqual([self.told(store), store.changed(0, 40), store.history(3)], told)


class ResumedTest(StoreCase):
    def test_in_the_middle_of_a_long_row(self):
        draw = drawn(147)
        for size, lines in [(4, 5), (5, 7), (6, 60)]:
            known = KnownStore(size, lines)
            for at in range(160):
                if at % 9 == 4:
                    self.resume(known, draw.random() < 0.5)
                there = sorted(known.pairs[-1])
                if there and draw.random() < 0.15:
                    known.checked_day(self, draw.choice(there), None)
                else:
                    known.checked_day(self, draw.choice([draw.randrange(100), *there[-2:]]), str(at))
                known.check_shape(self)
            known.check_pairs(self)
            self.check_histories(known, [0, 50, *sorted(known.pairs[-1])[:4]])

    def resume(self, known, new_disk):
        old = known.store
        disk = Disk(old.chest.disk.cells()) if new_disk else old.chest.disk
        writes, cells = disk.writes, disk.cells()
        known.store = Store.resumed(disk)
        self.assertIs(known.store.chest.disk, disk)
        self.assertEqual([disk.writes, disk.cells()], [writes, cells])
        told, told_before = self.told(known.store), self.told(old)
        del told[8], told_before[8]
        self.assertEqual(told, told_before)

    def test_of_the_first_day(self):
        store = Store.resumed(Disk(Store(7, 8).chest.disk.cells()))
        self.assertEqual([store.size, store.chest.lines, store.today, store.put_key(1, "a")], [7, 8, 0, (0, 1)])

    def test_of_a_copied_disk(self):
        known = KnownStore(4, 5)
        for key in range(20):
            known.put(key, "x")
        other = Store.resumed(Disk(known.store.chest.disk.cells()))
        other.put_key(3, "only there")
        known.check_pairs(self)
        self.assertEqual([other.get(3), known.store.get(3)], ["only there", "x"])

    def test_with_the_allowance_of_the_disk(self):
        disk = Disk(Store(4, 5).chest.disk.cells())
        disk.allow(0)
        store = Store.resumed(disk)
        self.assertEqual([len(store.at(0)), disk.allowance, disk.writes], [0, 0, 0])
        self.assertEqual(self.refused(Stopped, store.put_key, 1, "a").writes, 0)


class StoppedTest(StoreCase):
    def test_at_each_write(self):
        size, row = busy_row(742, 120)
        disk, sizes = Store(size, size + 1).chest.disk, set()
        for at, key in enumerate(row):
            calls = [lambda store: store.put_key(key, "x")]
            if key in row[:at] and key in Store.resumed(disk).at(at):
                calls.append(lambda store: store.drop_key(key))
            for call in calls:
                whole = Disk(disk.cells())
                result = call(Store.resumed(whole))
                sizes.add(result)
                self.assertEqual(whole.writes, sum(result) + 1)
                for allowed in range(whole.writes):
                    other = Disk(disk.cells())
                    store = Store.resumed(other)
                    other.allow(allowed)
                    self.assertEqual(self.refused(Stopped, call, store).writes, allowed)
                    self.assertEqual(other.read_cell(0), disk.read_cell(0))
                    other.allow(None)
                    other.write_cell(len(other), "goes on")
            Store.resumed(disk).put_key(key, "x")
        self.assertGreater(len(sizes), 4)


if __name__ == "__main__":
    unittest.main()
