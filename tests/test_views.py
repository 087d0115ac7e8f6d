"""Point 57 and the interface of onecopy.views."""

import unittest

from onecopy.errors import NoDay, NoKey
from onecopy.store import Store
from onecopy.views import View
from tests.helpers import drawn
from tests.plain import KnownStore


def known_store(days=140, size=4, lines=5, seed=151):
    """A store with empty leaves, divided tops and gaps between the keys."""
    draw, known = drawn(seed), KnownStore(size, lines)
    for at in range(days):
        there = sorted(known.pairs[-1])
        low = draw.randrange(8) * 10
        near = [key for key in there if low <= key < low + 15]
        if near and draw.random() < 0.4:
            known.drop(draw.choice(near))
        else:
            known.put(3 * draw.randrange(40) - 20, f"{at}")
    return known


class ViewCase(unittest.TestCase):
    def refused(self, error, call, *arguments):
        with self.assertRaises(error) as caught:
            call(*arguments)
        return caught.exception

    def check_view(self, view, pairs, keys):
        """All that a view tells of the pairs."""
        rows = sorted(pairs.items())
        self.assertEqual([len(view), list(view.scan(-10 ** 41, 10 ** 41))], [len(pairs), rows])
        for key in keys:
            self.assertIs(key in view, key in pairs)
            self.assertIs(key not in view, key not in pairs)
            if key in pairs:
                self.assertEqual(view[key], pairs[key])
            else:
                self.assertEqual(self.refused(NoKey, lambda: view[key]).key, key)
            greater = [other for other, _ in rows if other > key]
            self.assertEqual(view.next_key(key), greater[0] if greater else None)


class ViewsTest(ViewCase):
    def test_every_day(self):
        known = known_store()
        empty = 0
        for day in known.store.days():
            view = View(known.store.chest, day)
            self.assertEqual(view.day, day)
            self.check_view(view, known.pairs[day], range(-25, 105, 1 if day % 10 == 0 else 7))
            empty += any(row[2] == [] for row in view.shape() if row[0] > 1)
        self.assertGreater(empty, 0)

    def test_a_view_stays_on_its_day(self):
        known = KnownStore(4, 5)
        views = [known.store.at(0)]
        draw = drawn(152)
        told = [(views[0].shape(), views[0].trail(3))]
        for at in range(80):
            if known.pairs[-1] and at % 4 == 3:
                known.drop(draw.choice(sorted(known.pairs[-1])))
            else:
                known.put(draw.randrange(30), str(at))
            view = known.store.at(known.store.today)
            views.append(view)
            told.append((view.shape(), view.trail(3)))
        for day, view in enumerate(views):
            self.assertEqual([view.day, (view.shape(), view.trail(3))], [day, told[day]])
            self.check_view(view, known.pairs[day], range(-1, 31, 3))

    def test_no_day(self):
        chest = known_store(20).store.chest
        for day in [-1, 21, 10 ** 9]:
            self.assertEqual(self.refused(NoDay, View, chest, day).day, day)

    def test_empty_store(self):
        view = Store(4, 5).at(0)
        self.assertEqual([len(view), 0 in view, view.next_key(-5), list(view.scan(-5, 5))], [0, False, None, []])
        self.assertEqual([view.shape(), view.trail(7)], [[(0, 0, [])], [2]])
        self.assertEqual(self.refused(NoKey, lambda: view[0]).key, 0)
        self.assertFalse(bool(view))

    def test_the_empty_text_is_there(self):
        store = Store(4, 5)
        store.put_key(0, "")
        view = store.at(1)
        self.assertEqual([0 in view, view[0], len(view), list(view.scan(0, 1))], [True, "", 1, [(0, "")]])


class ScanTest(ViewCase):
    def test_bounds_in_every_order(self):
        known = known_store()
        for day in [0, 5, 60, 140]:
            view, rows = known.store.at(day), sorted(known.pairs[day].items())
            for low in range(-25, 105, 6):
                for high in range(-25, 105, 7):
                    expected = [(key, text) for key, text in rows if low <= key < high]
                    self.assertEqual(list(view.scan(low, high)), expected)
            for key, _ in rows:
                self.assertEqual(list(view.scan(key, key)), [])
                self.assertEqual([one for one, _ in view.scan(key, key + 1)], [key])

    def test_a_loop_that_ends_early(self):
        known = known_store()
        view = known.store.at(140)
        for wanted, (key, text) in zip(sorted(known.pairs[140].items()), view.scan(-100, 200)):
            self.assertEqual((key, text), wanted)
            if key > 20:
                break
        self.assertEqual(list(view.scan(-100, 200)), sorted(known.pairs[140].items()))

    def test_it_is_a_generator_of_pairs(self):
        store = Store(4, 5)
        store.put_key(1, "a")
        found = store.at(1).scan(0, 5)
        self.assertIs(iter(found), found)
        self.assertEqual([next(found), list(found)], [(1, "a"), []])

    def test_no_day_when_it_is_iterated(self):
        known = known_store(30)
        view = known.store.at(10)
        known.store.chest.sweep_to([])
        for low, high in [(0, 50), (50, 0)]:
            found = view.scan(low, high)
            self.assertEqual(self.refused(NoDay, list, found).day, 10)


class TrailTest(ViewCase):
    def test_trails(self):
        known = known_store()
        chest = known.store.chest
        for day in range(0, 141, 9):
            view = known.store.at(day)
            shape = view.shape()
            depth = max(row[0] for row in shape)
            for key in range(-25, 105, 4):
                trail = view.trail(key)
                self.assertEqual([len(trail), trail[0]], [depth + 1, chest.entry_address(0, day)])
                pages = [chest.look(address, day)[0] for address in trail]
                for above, page, address in zip(trail, pages[1:], trail[1:]):
                    self.assertIn((page, address), chest.look(above, day)[3])
                leaf = [things for _, page, things in shape if page == pages[-1]][0]
                self.assertIs(key in dict(leaf), key in known.pairs[day])
        self.assertEqual(known.plain.way(44)[-1].page,
                         chest.look(known.store.at(140).trail(44)[-1], 140)[0])

    def test_a_lookup_looks_at_one_copy_on_each_level(self):
        known = known_store()
        view = known.store.at(140)
        depth = max(row[0] for row in view.shape())
        looked, look = [], known.store.chest.look

        def logged(address, day):
            looked.append(address)
            return look(address, day)

        known.store.chest.look = logged
        for key in range(-25, 105):
            for call in [lambda: key in view, lambda: view.trail(key), lambda: view[key]]:
                looked.clear()
                try:
                    call()
                except NoKey:
                    pass
                self.assertEqual(len(looked), depth + 1)

    def test_lists_are_copied(self):
        known = known_store(60)
        view = known.store.at(60)
        told = view.shape()
        for row in view.shape():
            row[2].append("x")
        view.shape().clear()
        view.trail(3).clear()
        self.assertEqual([view.shape(), len(view.trail(3))], [told, max(row[0] for row in told) + 1])


class IteratedTest(ViewCase):
    def test_type_error_on_every_day(self):
        known = known_store(30)
        views = [known.store.at(day) for day in [0, 12, 30]]
        for swept in [False, True]:
            if swept:
                known.store.chest.sweep_to([])
            for view in views:
                for call in [lambda: [key for key in view], lambda: list(view), lambda: iter(view), lambda: sorted(view),
                             lambda: tuple(view), lambda: dict(view)]:
                    self.refused(TypeError, call)


class UnreadableTest(ViewCase):
    def test_no_day_before_any_other_error(self):
        known = known_store(30)
        views = [known.store.at(day) for day in [0, 12, 29, 30]]
        known.store.chest.sweep_to([12])
        key = sorted(known.pairs[12])[0]
        for view in [views[0], views[2]]:
            for call in [lambda: view[key], lambda: view[999], lambda: key in view, lambda: 999 in view,
                         lambda: len(view), lambda: list(view.scan(0, 5)), lambda: view.next_key(3),
                         lambda: view.next_key(999), lambda: view.trail(3), view.shape]:
                self.assertEqual(self.refused(NoDay, call).day, view.day)
        for view in [views[1], views[3]]:
            self.check_view(view, known.pairs[view.day], range(-25, 105, 3))


if __name__ == "__main__":
    unittest.main()
