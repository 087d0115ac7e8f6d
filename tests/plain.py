"""Plain records of stores, which know nothing of the package's ways, to compare with."""

from onecopy.standings import Standing
from onecopy.store import Store
from onecopy.webs import Web
from tests.helpers import has_dealing


class PlainTable:
    """A table with its pairs, or with its children and the separators between them."""

    def __init__(self, page, pairs=None, children=None, separators=None):
        self.page, self.pairs, self.children, self.separators = page, pairs, children, separators

    def things(self):
        return self.pairs if self.children is None else self.children

    def shape(self, depth=0):
        """Point 52, the rows of View.shape."""
        if self.children is None:
            return [(depth, self.page, list(self.pairs))]
        rows = [(depth, self.page, list(self.separators))]
        for child in self.children:
            rows += child.shape(depth + 1)
        return rows


class PlainStore:
    """Points 51 to 53 without copies and lines."""

    def __init__(self, size):
        self.size, self.top, self.pages = size, PlainTable(0, pairs=[]), 1

    def weight(self, table):
        return sum(self.thing_weights(table))

    def thing_weights(self, table):
        if table.children is None:
            return [1] * len(table.pairs)
        return [2 if self.weight(child) >= self.size else 1 for child in table.children]

    def way(self, key):
        """The tables from the top to the leaf of the key."""
        way = [self.top]
        while way[-1].children is not None:
            table = way[-1]
            index = 0
            while index < len(table.separators) and key >= table.separators[index]:
                index += 1
            way.append(table.children[index])
        return way

    def tables(self, table=None):
        table = self.top if table is None else table
        return [table] + [one for child in table.children or [] for one in self.tables(child)]

    def parent(self, page):
        """The page of the parent, None for the top."""
        for table in self.tables():
            if page in [child.page for child in table.children or []]:
                return table.page
        return None

    def pointers(self):
        return [(table.page, child.page) for table in self.tables() for child in table.children or []]

    def drop(self, key):
        leaf = self.way(key)[-1]
        leaf.pairs = [pair for pair in leaf.pairs if pair[0] != key]

    def put(self, key, text):
        """Returns the pages of the divided table, of its parent (None for the top) and of the new tables, or None."""
        leaf = self.way(key)[-1]
        leaf.pairs = sorted([pair for pair in leaf.pairs if pair[0] != key] + [(key, text)])
        heavy = [table for table in self.tables() if self.weight(table) > self.size]
        if not heavy:
            return None
        assert len(heavy) == 1 and self.weight(heavy[0]) == self.size + 1
        return self.divide(heavy[0])

    def divide(self, table):
        weights = self.thing_weights(table)
        cut = len(weights) // 2
        if sum(weights[:cut]) == 1:
            cut += 1
        left, right = PlainTable(self.pages), PlainTable(self.pages + 1)
        self.pages += 2
        if table.children is None:
            left.pairs, right.pairs = table.pairs[:cut], table.pairs[cut:]
            separator = right.pairs[0][0]
        else:
            left.children, right.children = table.children[:cut], table.children[cut:]
            left.separators, right.separators = table.separators[:cut - 1], table.separators[cut:]
            separator = table.separators[cut - 1]
        parents = [one for one in self.tables() if table in (one.children or [])]
        if not parents:
            self.top = PlainTable(self.pages, children=[left, right], separators=[separator])
            self.pages += 1
            return table.page, None, [left.page, right.page, self.top.page]
        parent = parents[0]
        at = parent.children.index(table)
        parent.children[at:at + 1] = [left, right]
        parent.separators.insert(at, separator)
        return table.page, parent.page, [left.page, right.page]


def answered(lines, blank, pointers, page, answer):
    """The blank lines after the update with this answer, by the pages, or None if no ledger answers so."""
    pages = sorted(blank)
    index = pages.index
    web = Web(len(pages), [(index(a), index(b)) for a, b in pointers])
    before = Standing(web, lines, [blank[one] for one in pages])
    assert has_dealing(before)
    try:
        alone = before.after(index(page))
    except ValueError:
        alone = None
    if alone is not None and not has_dealing(alone):
        alone = None
    if (answer == ()) != (alone is not None):
        return None
    if answer:
        try:
            alone = before.after(index(page), *[index(one) for one in answer])
        except ValueError:
            return None
        if len(answer) > 1 or not has_dealing(alone):
            return None
    return dict(zip(pages, alone.blanks()))


class KnownStore:
    """A store with the pairs that it had at the end of each day, and with its tables."""

    def __init__(self, size, lines):
        self.store, self.plain, self.lines = Store(size, lines), PlainStore(size), lines
        self.pairs = [{}]
        # The number of the days with a copy, with a division, and so on.
        self.seen = {}

    def count(self, word):
        self.seen[word] = self.seen.get(word, 0) + 1

    def put(self, key, text):
        """Make a day without looking at it closely. Returns what put_key returns."""
        result = self.store.put_key(key, text)
        self.pairs.append({**self.pairs[-1], key: text})
        self.plain.put(key, text)
        return result

    def drop(self, key):
        result = self.store.drop_key(key)
        self.pairs.append({one: text for one, text in self.pairs[-1].items() if one != key})
        self.plain.drop(key)
        return result

    def checked_day(self, case, key, text):
        """Make a day (with text None a drop) and check all that points 53 and 54 say of it."""
        store, chest = self.store, self.store.chest
        tables = [page for _, page, _ in store.at(store.today).shape()]
        blank = {page: chest.blank_of(page) for page in tables}
        case.assertEqual([blank[page] for page in tables], store.standing.blanks())
        pointers, leaf = self.plain.pointers(), self.plain.way(key)[-1].page
        parents = {page: self.plain.parent(page) for page in tables}
        stored, writes = chest.stored(), chest.disk.writes
        result = store.drop_key(key) if text is None else store.put_key(key, text)
        if text is None:
            self.pairs.append({one: old for one, old in self.pairs[-1].items() if one != key})
            division = self.plain.drop(key)
        else:
            self.pairs.append({**self.pairs[-1], key: text})
            division = self.plain.put(key, text)
        case.assertEqual([store.today, chest.disk.writes], [len(self.pairs) - 1, writes + sum(result) + 1])
        added = chest.stored()[len(stored):]
        case.assertEqual([chest.stored()[:len(stored)], len(added)], [stored, result[0]])
        self.check_updates(case, (blank, pointers, parents), leaf, division, [page for _, page, _ in added], result)

    def check_updates(self, case, before, leaf, division, copied, result):
        """Point 54: the updates of the day answer for its copies and notes."""
        blank, pointers, parents = before
        first = tuple(page for page in copied if page in blank and copied.index(page) == 0)
        expected = 0
        if division is None or division[0] != leaf:
            blank = answered(self.lines, blank, pointers, leaf, first)
            case.assertIsNotNone(blank)
            expected += (leaf not in first) + len([page for page in first if parents[page] is not None])
            self.count("first update copies the leaf" if leaf in first else "first update copies" if first else "alone")
        else:
            case.assertEqual(copied[:2], division[2][:2])
            first = ()
        second = ()
        if division is not None:
            divided, parent, new = division
            self.count("division")
            case.assertEqual(copied[len(first):len(first) + len(new)], new)
            second = tuple(copied[len(first) + len(new):])
            del blank[divided]
            blank.update({page: self.lines for page in new})
            if first == (divided,):
                self.count("a copy is given up" if parent is not None else "a top is given up")
            if parent is not None:
                blank = answered(self.lines, blank, self.plain.pointers(), parent, second)
                case.assertIsNotNone(blank)
                expected += (parent not in second)
                expected += len([page for page in second if self.plain.parent(page) is not None])
                self.count_second(first, second, parent)
            case.assertEqual([blank[page] for page in new], [self.lines] * len(new))
            case.assertLessEqual(max(result), 4)
        else:
            case.assertEqual(copied, list(first))
            case.assertLessEqual([result[0] <= 1, result[1] <= 2], [True, True])
        case.assertEqual(set(first) & set(second), set())
        case.assertEqual(result, (len(copied), expected))
        tables = [table.page for table in self.plain.tables()]
        case.assertEqual(self.store.standing.blanks(), [blank[page] for page in tables])

    def count_second(self, first, second, parent):
        if first == (parent,):
            self.count("the parent is copied first")
        if second:
            self.count("second update copies")
        if first and second:
            self.count("both updates copy")

    def check_shape(self, case):
        """Points 52, 55 and 56."""
        store, plain = self.store, self.plain
        rows = store.at(store.today).shape()
        case.assertEqual(rows, plain.top.shape())
        case.assertTrue(all(plain.weight(table) <= plain.size for table in plain.tables()))
        case.assertEqual(len({depth for depth, page, _ in rows if page in self.leaves()}), 1)
        case.assertLessEqual(len(rows), 1 + 2 * store.today)
        case.assertLessEqual(len(store.chest.stored()), 1 + 4 * store.today)

    def leaves(self):
        return [table.page for table in self.plain.tables() if table.children is None]

    def check_pairs(self, case, days=None):
        """The main promise of point 55."""
        for day in self.store.days() if days is None else days:
            view, pairs = self.store.at(day), self.pairs[day]
            case.assertEqual([pair for row in view.shape() for pair in row[2] if isinstance(pair, tuple)],
                             sorted(pairs.items()))
            case.assertEqual(len(view), len(pairs))
