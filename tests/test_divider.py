"""Points 48 to 50 and the interface of onecopy.divider."""

import unittest
from itertools import product

from onecopy.dealings import trim
from onecopy.divider import Crowd, Divider, cut_of
from onecopy.errors import InvalidDivision, NoPage, NoTable, NotShort, Overfull, ShortLot
from onecopy.tables import TableTree
from tests.helpers import drawn, has_short, plain_trim, trim_by_matching
from tests.test_tables import all_divisions, drawn_tree, heavy_tree


def weights_after_arrival(tree, table):
    """Point 45, table by table, the deepest ones first."""
    parents, weights = tree.parents(), tree.own()
    weights[table] += 1
    depths = {parents.index(None): 0}
    rows = [[parents.index(None)]]
    while rows[-1]:
        rows.append([child for at in rows[-1] for child in tree.children(at)])
        depths.update({child: len(rows) - 1 for child in rows[-1]})
    for at in sorted(depths, key=depths.get, reverse=True):
        if parents[at] is not None:
            weights[parents[at]] += 1 + (weights[at] >= tree.size)
    return weights


def star(size, leaves, own=0):
    return TableTree(size, [None] + [0] * leaves, [0] + [own] * leaves)


def path(size, tables, own=0):
    return TableTree(size, [None, *range(tables - 1)], [own] * tables)


class DividerCase(unittest.TestCase):
    def refused(self, error, call, *arguments):
        with self.assertRaises(error) as caught:
            call(*arguments)
        return caught.exception


class CutTest(DividerCase):
    def test_all_short_lists(self):
        for count in range(2, 11):
            for weights in product([1, 2], repeat=count):
                cut = cut_of(list(weights))
                self.assertEqual(cut, count // 2 + (sum(weights[:count // 2]) == 1))
                if sum(weights) >= 5:
                    self.assertGreaterEqual(min(sum(weights[:cut]), sum(weights[cut:])), 2)

    def test_named_lists(self):
        self.assertEqual([cut_of([1, 1]), cut_of([1, 2]), cut_of([2, 1]), cut_of([2, 2])], [2, 2, 1, 1])
        self.assertEqual([cut_of([1, 2, 2]), cut_of([2, 1, 2]), cut_of([1, 1, 1, 1])], [2, 1, 2])
        weights = [1, 2, 2]
        cut_of(weights)
        self.assertEqual(weights, [1, 2, 2])


class DividersTest(DividerCase):
    def check_arrival(self, divider, table):
        """Point 48 for one arrival."""
        before, weights = divider.tree, weights_after_arrival(divider.tree, table)
        division = divider.take_arrival(table)
        heavy = [at for at, weight in enumerate(weights) if weight > before.size]
        self.assertTrue(divider.tree == before.arrive(table, division))
        self.assertLessEqual(max(divider.tree.weights()), before.size)
        if not heavy:
            self.assertIsNone(division)
            return division
        self.assertEqual([(at, weights[at]) for at in heavy], [(heavy[0], before.size + 1)])
        divided, entries, children = division
        self.assertIsInstance(division, tuple)
        self.assertIsInstance(children, list)
        self.assertEqual(children, sorted(children))
        new = len(before.own())
        found = [divider.tree.weight(divided), divider.tree.weight(new)]
        self.assertEqual([divided, sum(found)], [heavy[0], before.size + 1])
        self.assertTrue(all(2 <= weight <= before.size - 1 for weight in found))
        self.assertTrue(divider.tree.is_keepable())
        return division

    def check_row(self, tree, tables):
        """The divisions of a row of arrivals, each at the table that the function chooses in the present tree."""
        divider = Divider(tree)
        found = [self.check_arrival(divider, tables(divider.tree)) for _ in range(120)]
        return [division for division in found if division is not None]

    def test_rows_on_trees_of_every_kind(self):
        draw = drawn(131)
        divided = {"leaf": 0, "with children": 0}
        for size in [3, 4, 5, 8]:
            trees = [TableTree(size, [None], [0]), TableTree(size, [None], [size]), path(size, 6), star(size, size),
                     path(size, 30), star(size, 2, size)]
            trees += [drawn_tree(draw, size, 8, 0.3) for _ in range(3)] + [heavy_tree(draw, size, 6) for _ in range(20)]
            for tree in [tree for tree in trees if tree.is_keepable()]:
                always = draw.randrange(len(tree.own()))
                for choose in [lambda tree: draw.randrange(len(tree.own())), lambda tree: always, self.fullest]:
                    for division in self.check_row(tree, choose):
                        divided["with children" if division[2] else "leaf"] += 1
        self.assertGreater(divided["leaf"], 100)
        self.assertGreater(divided["with children"], 100)

    def fullest(self, tree):
        weights = tree.weights()
        return weights.index(max(weights))

    def test_long_row_in_one_table(self):
        for size in [3, 4, 60]:
            divider = Divider(TableTree(size, [None], [0]))
            for arrival in range(500):
                self.check_arrival(divider, 0)
            self.assertEqual(sum(divider.tree.own()), 500)

    def test_chain_of_due_tables(self):
        # Every table of the path is due exactly if it is full, and the arrival at the end is felt at the top.
        tree = TableTree(3, [None, *range(99)], [1] * 99 + [2])
        divider = Divider(tree)
        self.assertIsNone(self.check_arrival(divider, 99))
        self.assertEqual(divider.tree.weights(), [3] * 100)
        division = self.check_arrival(divider, 0)
        self.assertEqual(division[0], 0)
        self.assertEqual(self.check_arrival(divider, 99)[0], 99)

    def test_an_arrival_that_is_felt_far_above(self):
        # Weights 3, 3, .., 3, 2: the last table becomes due, and so do all up to the top, which is divided.
        tree = TableTree(3, [None, *range(9)], [2] + [1] * 8 + [2])
        self.assertEqual(tree.weights(), [3] + [2] * 9)
        division = self.check_arrival(Divider(tree), 9)
        self.assertEqual(division[0], 0)

    def test_short_lot(self):
        draw = drawn(132)
        refused = 0
        for _ in range(400):
            tree = heavy_tree(draw, draw.choice([3, 4, 6]), draw.randint(1, 12))
            if tree.is_keepable():
                self.assertTrue(Divider(tree).tree == tree)
            else:
                refused += 1
                lot = self.refused(ShortLot, Divider, tree).lot
                self.assertTrue(tree.as_standing().is_short(lot))
                self.assertEqual(lot, sorted(set(lot)))
        self.assertGreater(refused, 50)

    def test_no_table(self):
        divider = Divider(TableTree(3, [None, 0, 0], [0, 2, 1]))
        before = divider.tree
        for table in [3, -1, -3, 90]:
            self.assertEqual(self.refused(NoTable, divider.take_arrival, table).table, table)
            self.assertTrue(divider.tree == before)
        self.assertIsNone(divider.take_arrival(2))

    def test_a_returned_division_is_changed_afterwards(self):
        divider = Divider(TableTree(3, [None, 0, 1, 1], [0, 0, 3, 0]))
        found = None
        while found is None or not found[2]:
            found = divider.take_arrival(1)
        before = [divider.tree.parents(), divider.tree.own()]
        found[2].append(77)
        self.assertEqual([divider.tree.parents(), divider.tree.own()], before)


class CrowdsTest(DividerCase):
    def trees(self, count, tables, sizes=(3, 4)):
        """Trees with a short lot."""
        draw = drawn(133)
        found = []
        while len(found) < count:
            tree = heavy_tree(draw, draw.choice(sizes), draw.randint(2, tables))
            if not tree.is_keepable():
                found.append(tree)
        return draw, found

    def legal(self, tree, table):
        found = []
        for division in all_divisions(tree, table):
            try:
                found.append((division, tree.arrive(table, division)))
            except (InvalidDivision, Overfull):
                pass
        return found

    def check_crowd(self, crowd, lot):
        tree = crowd.tree
        self.assertEqual(crowd.present_lot(), lot)
        table = crowd.next_table()
        self.assertIn(table, lot)
        self.assertFalse(set(tree.children(table)) & set(lot))
        self.assertEqual(tree.things(table), tree.size)
        self.assertTrue(tree.as_standing().is_short(lot))

    def test_against_every_division_in_small_trees(self):
        draw, trees = self.trees(120, 7)
        won_at_once = 0
        for tree in trees:
            every = list(range(len(tree.own())))
            waiting = [(Crowd(tree, every), plain_trim(tree.as_standing(), every), None)]
            while waiting:
                crowd, lot, left = waiting.pop()
                left = len(lot) - 1 if left is None else left
                self.check_crowd(crowd, lot)
                replies = self.legal(crowd.tree, crowd.next_table())
                self.assertIs(crowd.has_won, replies == [])
                # This arrival is one of those that are left.
                self.assertGreaterEqual(left, 1)
                won_at_once += crowd.has_won
                for division, after in draw.sample(replies, min(3, len(replies))):
                    again = Crowd(crowd.tree, lot)
                    self.assertIsNone(again.take_division(division))
                    self.assertTrue(again.tree == after)
                    self.assertTrue(crowd.present_lot() == lot)
                    smaller = trim_by_matching(after.as_standing(), lot)
                    self.assertLess(len(smaller), len(lot))
                    waiting.append((again, smaller, left - 1))
        self.assertGreater(won_at_once, 100)

    def test_against_drawn_divisions_in_larger_trees(self):
        draw, trees = self.trees(40, 60, (3, 4, 6))
        for tree in trees:
            crowd = Crowd(tree, list(range(len(tree.own()))))
            arrivals, lot = len(crowd.present_lot()) - 1, crowd.present_lot()
            while not crowd.has_won:
                self.check_crowd(crowd, lot)
                full = crowd.tree.own()[crowd.next_table()] + 1
                below = crowd.tree.children(crowd.next_table())
                entries = draw.randint(0, full)
                children = [child for child in below if draw.random() < 0.5]
                if 1 <= entries + len(children) < full + len(below):
                    crowd.take_division((crowd.next_table(), entries, children))
                    self.assertLess(len(crowd.present_lot()), len(lot))
                    lot, arrivals = crowd.present_lot(), arrivals - 1
            self.assertGreaterEqual(arrivals, 1)

    def test_a_row_that_is_long(self):
        # A path of full tables with one place in the top: each arrival takes one table of the lot away.
        tables = 40
        tree = TableTree(3, [None, *range(tables - 1)], [2] + [2] * (tables - 2) + [3])
        self.assertEqual(tree.as_standing().blanks(), [0] * tables)
        crowd = Crowd(tree, list(range(tables)))
        self.assertEqual([len(crowd.present_lot()), crowd.has_won], [2, True])
        loose = TableTree(3, [None, *range(tables - 1)], [2] + [1] * (tables - 2) + [3])
        crowd = Crowd(loose, list(range(tables)))
        self.assertEqual([crowd.present_lot(), crowd.next_table()], [list(range(tables)), tables - 1])
        arrivals = 1
        while not crowd.has_won:
            table = crowd.next_table()
            crowd.take_division((table, 2, []))
            arrivals += 1
        self.assertEqual(arrivals, tables - 1)

    def test_trimmed_lots(self):
        draw, trees = self.trees(60, 8)
        for tree in trees:
            tables = len(tree.own())
            for _ in range(6):
                lot = [draw.randrange(tables) for _ in range(draw.randint(0, 2 * tables))]
                if has_short(tree.as_standing(), lot):
                    self.assertEqual(Crowd(tree, lot).present_lot(), trim(tree.as_standing(), lot))
                    self.assertEqual(Crowd(tree, lot).present_lot(), plain_trim(tree.as_standing(), lot))
                else:
                    self.assertEqual(self.refused(NotShort, Crowd, tree, lot).lot, sorted(set(lot)))

    def test_no_page_first(self):
        tree = TableTree(3, [None, 0], [2, 3])
        self.assertEqual(self.refused(NoPage, Crowd, tree, [0, 2, -1]).page, 2)
        self.assertEqual(self.refused(NoPage, Crowd, tree, [-1, 2]).page, -1)
        self.assertEqual(self.refused(NotShort, Crowd, tree, [1, 1]).lot, [1])
        self.assertEqual(self.refused(NotShort, Crowd, tree, []).lot, [])
        self.assertEqual(self.refused(NotShort, Crowd, TableTree(3, [None, 0], [1, 3]), [1, 0]).lot, [0, 1])
        lot = [1, 0, 1]
        crowd = Crowd(tree, lot)
        self.assertEqual([lot, crowd.present_lot(), crowd.has_won], [[1, 0, 1], [0, 1], True])

    def test_refused_divisions_change_nothing(self):
        tree = TableTree(3, [None, 0, 1], [2, 1, 3])
        crowd = Crowd(tree, [0, 1, 2])
        self.assertEqual([crowd.present_lot(), crowd.next_table(), crowd.has_won], [[0, 1, 2], 2, False])
        for division, error, table in [
            (None, Overfull, 2), ((9, 1, []), InvalidDivision, 9), ((2, 5, []), InvalidDivision, 2),
            ((2, 4, []), InvalidDivision, 2), ((2, 0, []), InvalidDivision, 2), ((0, 1, [2]), InvalidDivision, 0),
            ((1, 0, [2, 2]), InvalidDivision, 1), ((1, 1, []), Overfull, 0), ((0, 2, []), Overfull, 2),
        ]:
            self.assertEqual(self.refused(error, crowd.take_division, division).table, table)
            self.assertTrue(crowd.tree == tree)
            self.assertEqual([crowd.present_lot(), crowd.next_table(), crowd.has_won], [[0, 1, 2], 2, False])
        crowd.take_division((2, 2, []))
        self.assertEqual([crowd.present_lot(), crowd.next_table(), crowd.has_won], [[0, 1], 1, True])
        self.assertEqual(self.refused(Overfull, crowd.take_division, (1, 1, [])).table, 0)
        crowd.present_lot().clear()
        self.assertEqual(crowd.present_lot(), [0, 1])


if __name__ == "__main__":
    unittest.main()
