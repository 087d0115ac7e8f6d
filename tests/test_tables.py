"""Points 45 to 47 and the interface of onecopy.tables."""

import unittest
from itertools import product

from onecopy.errors import InvalidDivision, InvalidTree, NoTable, Overfull
from onecopy.tables import TableTree
from tests.helpers import all_lots, drawn, has_dealing


def plain_weight(size, parents, own, table):
    """Point 45, word by word."""
    children = [child for child, parent in enumerate(parents) if parent == table]
    due = [child for child in children if plain_weight(size, parents, own, child) >= size]
    return own[table] + len(children) + len(due)


def plain_things(parents, own, table):
    return own[table] + parents.count(table)


def fits(size, parents, own, table):
    """Whether the table fits into the tree."""
    seen, at = [], table
    while at is not None and 0 <= at < len(parents) and at not in seen:
        seen.append(at)
        at = parents[at]
    return at is None and plain_things(parents, own, table) <= size


def plain_arrival(size, parents, own, table, division):
    """Point 46, word by word: the lists afterwards, or the error with its table."""
    parents, own = list(parents), list(own)
    if not 0 <= table < len(own):
        return NoTable, table
    own[table] += 1
    if division is not None:
        divided, entries, children = division
        if not 0 <= divided < len(own):
            return InvalidDivision, divided
        below = [child for child, parent in enumerate(parents) if parent == divided]
        if entries < 0 or entries > own[divided] or len(set(children)) < len(children) or set(children) - set(below):
            return InvalidDivision, divided
        if entries + len(children) < 1 or own[divided] - entries + len(below) - len(children) < 1:
            return InvalidDivision, divided
        new = len(own)
        own[divided] -= entries
        own.append(entries)
        parents.append(parents[divided])
        for child in children:
            parents[child] = new
        if parents[divided] is None:
            parents[divided] = parents[new] = new + 1
            parents.append(None)
            own.append(0)
    for at in range(len(own)):
        if plain_things(parents, own, at) > size:
            return Overfull, at
    return parents, own


def drawn_tree(draw, size, tables, full=0.5):
    """A tree whose tables are numbered in any order; each place is filled with this probability."""
    names = list(range(tables))
    draw.shuffle(names)
    parents = [None] * tables
    for at in range(1, tables):
        room = [name for name in names[:at] if parents.count(name) < size]
        parents[names[at]] = draw.choice(room)
    own = [sum(draw.random() < full for _ in range(size - parents.count(table))) for table in range(tables)]
    return TableTree(size, parents, own)


def heavy_tree(draw, size, tables):
    """A drawn tree in which nearly all places are filled."""
    return drawn_tree(draw, size, tables, draw.choice([0.9, 0.95, 1]))


def all_divisions(tree, table):
    """None and all divisions that can be made when an entry arrives at the table, legal or not."""
    found = [None]
    own = tree.own()
    own[table] += 1
    for divided, number in enumerate(own):
        found += [(divided, entries, lot) for entries in range(number + 1) for lot in all_lots(tree.children(divided))]
    return found


class TableCase(unittest.TestCase):
    def refused(self, error, call, *arguments):
        with self.assertRaises(error) as caught:
            call(*arguments)
        return caught.exception

    def told(self, tree):
        return [tree.size, tree.parents(), tree.own(), tree.weights(), tree.is_keepable()]


class ExamplesTest(TableCase):
    def test_example(self):
        tree = TableTree(3, [None, 0, 0], [0, 3, 1])
        after = tree.arrive(1, (1, 2, []))
        self.assertEqual(
            [tree.weights(), tree.is_due(0), after.parents(), after.own(), after.weights()],
            [[3, 3, 1], True, [None, 0, 0, 0], [0, 2, 1, 2], [3, 2, 1, 2]])


class InvalidTreeTest(TableCase):
    def invalid(self, size, parents, own):
        return self.refused(InvalidTree, TableTree, size, parents, own).table

    def test_lengths_and_tops_come_first(self):
        for parents, own in [([], []), ([None], []), ([], [0]), ([None, 0], [1]), ([None], [0, 0]),
                             ([None, None], [0, 0]), ([0], [0]), ([1, 0], [9, 9]), ([1, 2, 0], [0, 0, 0]),
                             ([None, 7], [0]), ([None, None, -1], [9, 9, 9]), ([5, -3], [0, 0])]:
            self.assertIsNone(self.invalid(3, parents, own))

    def test_a_parent_that_is_no_table(self):
        self.assertEqual(self.invalid(3, [None, 2], [0, 0]), 1)
        self.assertEqual(self.invalid(3, [None, -1], [0, 0]), 1)
        self.assertEqual(self.invalid(3, [None, 0, -3], [0, 0, 0]), 2)
        self.assertEqual(self.invalid(3, [-1, None], [0, 0]), 0)
        self.assertEqual(self.invalid(3, [1, 5, None], [0, 0, 0]), 0)
        self.assertEqual(self.invalid(3, [None, 0, 3, 10 ** 9], [0, 0, 0, 0]), 2)

    def test_rings_beside_the_top(self):
        self.assertEqual(self.invalid(3, [None, 1], [0, 0]), 1)
        self.assertEqual(self.invalid(3, [1, 0, None], [0, 0, 0]), 0)
        self.assertEqual(self.invalid(3, [None, 0, 3, 2], [0, 0, 0, 0]), 2)
        self.assertEqual(self.invalid(3, [None, 0, 1, 4, 5, 3, 3], [0] * 7), 3)
        self.assertEqual(self.invalid(3, [None, 2, 3, 4, 3], [0] * 5), 1)

    def test_too_many_things(self):
        self.assertEqual(self.invalid(3, [None], [4]), 0)
        self.assertEqual(self.invalid(3, [None, 0], [3, 0]), 0)
        self.assertEqual(self.invalid(3, [None, 0], [2, 4]), 1)
        self.assertEqual(self.invalid(3, [1, None, 1, 1, 1], [9, 0, 0, 0, 0]), 0)
        self.assertEqual(self.invalid(4, [1, None, 1, 1, 1, 1], [4, 0, 0, 0, 0, 0]), 1)
        self.assertEqual(TableTree(4, [1, None, 1, 1, 1], [4, 0, 0, 0, 0]).things(1), 4)

    def test_the_least_table_of_all_kinds(self):
        self.assertEqual(self.invalid(3, [None, 0, 7, 0], [0, 4, 0, 9]), 1)
        self.assertEqual(self.invalid(3, [None, 7, 0, 4, 3], [0, 0, 9, 0, 0]), 1)
        self.assertEqual(self.invalid(3, [None, 0, 4, 0, 2], [0, 0, 0, 9, 0]), 2)

    def test_drawn_lists(self):
        draw = drawn(121)
        kinds = set()
        for _ in range(3000):
            tables = draw.randint(1, 6)
            parents = [draw.choice([None, *range(-1, tables + 1)]) if draw.random() < 0.2
                       else draw.randrange(tables) for _ in range(tables)]
            parents[draw.randrange(tables)] = None
            own = [draw.randint(0, draw.choice([1, 4])) for _ in range(tables)]
            wrong = [table for table in range(tables) if not fits(3, parents, own, table)]
            if parents.count(None) != 1:
                self.assertIsNone(self.invalid(3, parents, own))
            elif wrong:
                self.assertEqual(self.invalid(3, parents, own), wrong[0])
            else:
                self.assertEqual(TableTree(3, parents, own).own(), own)
            kinds.add((parents.count(None) != 1, bool(wrong)))
        self.assertGreaterEqual(len(kinds), 3)


class TreesTest(TableCase):
    def check_tree(self, tree, size, parents, own):
        weights = [plain_weight(size, parents, own, table) for table in range(len(own))]
        self.assertEqual([tree.size, tree.parents(), tree.own(), tree.weights()], [size, parents, own, weights])
        for table, weight in enumerate(weights):
            below = [child for child, parent in enumerate(parents) if parent == table]
            self.assertEqual([tree.children(table), tree.things(table)], [below, own[table] + len(below)])
            self.assertEqual([tree.weight(table), tree.is_due(table)], [weight, weight >= size])
        self.assertIs(tree.is_keepable(), max(weights) <= size)
        for table in [-1, -len(own), len(own), len(own) + 5]:
            for call in [tree.children, tree.things, tree.weight, tree.is_due, tree.arrive]:
                self.assertEqual(self.refused(NoTable, call, table).table, table)

    def test_all_small_trees(self):
        found = {True: 0, False: 0}
        for tables in range(1, 5):
            for parents in product([None, *range(tables)], repeat=tables):
                for own in product([0, 1, 3], repeat=tables):
                    if parents.count(None) == 1 and all(fits(3, parents, own, table) for table in range(tables)):
                        tree = TableTree(3, list(parents), list(own))
                        self.check_tree(tree, 3, list(parents), list(own))
                        self.assertIs(tree.is_keepable(), has_dealing(tree.as_standing()))
                        found[tree.is_keepable()] += 1
        self.assertTrue(all(found.values()))

    def test_drawn_trees(self):
        draw = drawn(122)
        found = {True: 0, False: 0}
        for _ in range(300):
            size = draw.choice([3, 3, 4, 5, 9, 60])
            tree = draw.choice([drawn_tree, heavy_tree])(draw, size, draw.randint(1, 40))
            self.check_tree(tree, size, tree.parents(), tree.own())
            self.assertIs(tree.is_keepable(), has_dealing(tree.as_standing()))
            found[tree.is_keepable()] += 1
        self.assertTrue(all(found.values()))

    def test_as_standing(self):
        tree = TableTree(5, [2, 2, None, 1, 2], [1, 4, 2, 0, 5])
        standing = tree.as_standing()
        self.assertEqual([standing.web.pages, standing.lines], [5, 5])
        self.assertEqual(standing.web.arrows(), [(1, 3), (2, 0), (2, 1), (2, 4)])
        self.assertEqual(standing.blanks(), [4, 0, 0, 5, 0])
        self.assertEqual([TableTree(60, [None], [7]).as_standing().blanks()], [[53]])

    def test_deep_trees(self):
        for tables in [200, 700]:
            # A row of tables, each of which is due exactly if it is full.
            parents, own = [None, *range(tables - 1)], [1] * (tables - 1) + [3]
            tree = TableTree(3, parents, own)
            self.assertEqual(tree.weights(), [3] * tables)
            self.assertTrue(tree.is_keepable())
            own[0] = 2
            self.assertEqual(TableTree(3, parents, own).weights(), [4] + [3] * (tables - 1))
            own[-1] = 2
            self.assertEqual(TableTree(3, parents, own).weights(), [3] + [2] * (tables - 1))
            after = tree.arrive(tables - 1, (tables - 1, 2, []))
            self.assertEqual([after.parents()[-1], after.own()[-2:]], [tables - 2, [2, 2]])
            upside = TableTree(3, [*range(1, tables), None], [3] + [1] * (tables - 1))
            self.assertEqual(upside.weights(), [3] * tables)
            self.assertEqual(self.refused(InvalidTree, TableTree, 3, [*range(1, tables), 0, None],
                                          [0] * (tables + 1)).table, 0)
        self.assertTrue(has_dealing(TableTree(3, [None, *range(199)], [1] * 199 + [3]).as_standing()))

    def test_equality(self):
        tree = TableTree(3, [None, 0, 0], [0, 3, 1])
        self.assertTrue(tree == TableTree(3, [None, 0, 0], [0, 3, 1]))
        for other in [TableTree(4, [None, 0, 0], [0, 3, 1]), TableTree(3, [None, 0, 1], [0, 2, 1]),
                      TableTree(3, [None, 0, 0], [0, 3, 2]), TableTree(3, [None], [0]), tree.as_standing(),
                      None, 3, [None, 0, 0], "tree"]:
            self.assertFalse(tree == other)
            self.assertTrue(tree != other)

    def test_lists_are_copied(self):
        parents, own = [None, 0, 0], [0, 3, 1]
        tree = TableTree(3, parents, own)
        told = self.told(tree)
        parents[1] = 2
        own.clear()
        for rows in [tree.parents(), tree.own(), tree.weights(), tree.children(0), tree.as_standing().blanks()]:
            rows.append(9)
        self.assertEqual([self.told(tree), tree.children(0)], [told, [1, 2]])
        children = [2]
        after = tree.arrive(2, (0, 0, children))
        children.append(1)
        self.assertEqual([after.parents(), after.children(3), after.children(4)], [[4, 0, 3, 4, None], [2], [0, 3]])


class ArrivalsTest(TableCase):
    def check_arrival(self, tree, table, division):
        told = self.told(tree)
        expected = plain_arrival(tree.size, tree.parents(), tree.own(), table, division)
        if isinstance(expected[0], list):
            after = tree.arrive(table, division)
            self.assertEqual([after.size, after.parents(), after.own()], [tree.size, *expected])
            self.assertTrue(after == TableTree(tree.size, *expected))
        else:
            self.assertEqual(self.refused(expected[0], tree.arrive, table, division).table, expected[1])
        self.assertEqual(self.told(tree), told)
        return expected[0] if isinstance(expected[0], type) else None

    def test_without_a_division(self):
        tree = TableTree(3, [None, 0, 0], [0, 3, 1])
        self.assertEqual(tree.arrive(2).own(), [0, 3, 2])
        self.assertEqual(tree.arrive(0).own(), [1, 3, 1])
        self.assertEqual(tree.arrive(2, None).parents(), [None, 0, 0])
        self.assertEqual(self.refused(Overfull, tree.arrive, 1).table, 1)
        self.assertEqual(self.refused(Overfull, TableTree(3, [None], [3]).arrive, 0).table, 0)

    def test_of_a_leaf_a_middle_table_and_the_top(self):
        tree = TableTree(4, [None, 0, 1, 1], [1, 2, 4, 0])
        leaf = TableTree(4, [None, 0, 1, 1], [1, 1, 4, 0]).arrive(2, (2, 3, []))
        self.assertEqual([leaf.parents(), leaf.own()], [[None, 0, 1, 1, 1], [1, 1, 2, 0, 3]])
        middle = tree.arrive(1, (1, 2, [3]))
        self.assertEqual([middle.parents(), middle.own()], [[None, 0, 1, 4, 0], [1, 1, 4, 0, 2]])
        self.assertEqual([middle.children(0), middle.children(1), middle.children(4)], [[1, 4], [2], [3]])
        top = tree.arrive(3, (0, 1, []))
        self.assertEqual([top.parents(), top.own()], [[5, 0, 1, 1, 5, None], [0, 2, 4, 1, 1, 0]])
        with_child = tree.arrive(3, (0, 0, [1]))
        self.assertEqual([with_child.parents(), with_child.own()], [[5, 4, 1, 1, 5, None], [1, 2, 4, 1, 0, 0]])
        alone = TableTree(3, [None], [3]).arrive(0, (0, 2, []))
        self.assertEqual([alone.parents(), alone.own()], [[2, 2, None], [2, 2, 0]])

    def test_children_in_any_order(self):
        tree = TableTree(5, [None, 0, 0, 0, 0], [1, 0, 0, 0, 0])
        after = tree.arrive(0, (0, 1, [4, 1, 3]))
        self.assertEqual([after.parents(), after.own()], [[6, 5, 0, 5, 5, 6, None], [1, 0, 0, 0, 0, 1, 0]])

    def test_no_table_first(self):
        tree = TableTree(3, [None], [3])
        for table in [1, -1, 7]:
            for division in [None, (5, 0, []), (0, 9, [0])]:
                self.assertEqual(self.refused(NoTable, tree.arrive, table, division).table, table)

    def test_invalid_divisions(self):
        tree = TableTree(3, [None, 0, 0, 1], [0, 2, 3, 3])
        for division in [(4, 1, []), (-1, 1, []), (99, 0, [1]),
                         (2, -1, []), (2, 5, []), (1, 3, [3]), (0, 1, [1]),
                         (0, 0, [3]), (0, 0, [0]), (0, 0, [1, 9]), (0, 0, [-1]), (2, 1, [1]),
                         (0, 0, [1, 1]), (1, 1, [3, 3]), (0, 0, [2, 1, 2]),
                         (2, 0, []), (2, 4, []), (0, 0, []), (0, 0, [1, 2]), (1, 2, [3]), (3, 3, [])]:
            # The arrival at table 2 leaves it overfull, unless it is divided; that comes later.
            self.assertEqual(self.refused(InvalidDivision, tree.arrive, 2, division).table, division[0])
        self.assertEqual(tree.arrive(2, (2, 3, [])).own(), [0, 2, 1, 3, 3])

    def test_overfull_last_and_least(self):
        tree = TableTree(3, [None, 0, 0, 0], [0, 3, 3, 3])
        self.assertEqual(self.refused(Overfull, tree.arrive, 2).table, 2)
        self.assertEqual(self.refused(Overfull, tree.arrive, 2, (2, 1, [])).table, 0)
        self.assertEqual(self.refused(Overfull, tree.arrive, 2, (3, 1, [])).table, 0)
        self.assertEqual(self.refused(Overfull, tree.arrive, 2, (0, 0, [1])).table, 2)
        wide = TableTree(3, [1, None, 1], [3, 0, 3])
        self.assertEqual(self.refused(Overfull, wide.arrive, 2, (0, 1, [])).table, 2)
        big = TableTree(3, [None], [3])
        self.assertEqual(big.arrive(0, (0, 1, [])).own(), [3, 1, 0])
        self.assertEqual(big.arrive(0, (0, 3, [])).own(), [1, 3, 0])

    def test_against_the_plain_way(self):
        draw = drawn(123)
        kinds = {}
        for _ in range(2500):
            tree = draw.choice([drawn_tree, heavy_tree])(draw, draw.choice([3, 4]), draw.randint(1, 6))
            tables = len(tree.own())
            table = draw.randrange(-1, tables + 1)
            division = (draw.randrange(-1, tables + 1), draw.randint(-1, 4),
                        [draw.randrange(-1, tables + 1) for _ in range(draw.choice([0, 0, 1, 2]))])
            legal = all_divisions(tree, table) if 0 <= table < tables else [None]
            kind = self.check_arrival(tree, table, draw.choice([division, draw.choice(legal), draw.choice(legal)]))
            kinds[kind] = kinds.get(kind, 0) + 1
        self.assertEqual(set(kinds), {None, NoTable, InvalidDivision, Overfull})
        self.assertGreater(min(kinds.values()), 20)


if __name__ == "__main__":
    unittest.main()
