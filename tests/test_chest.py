"""Points 29 to 32 and 37 (of commit_day) and the interface of onecopy.chest."""

import unittest
from copy import deepcopy

from onecopy.cells import Disk
from onecopy.chest import Chest
from onecopy.errors import NoCopy, NoDay, NoEntry, NoLine, NoPage, Stopped
from tests.helpers import drawn


class LoggedDisk(Disk):
    """A disk that writes down the index of each write."""

    def __init__(self, cells=None):
        super().__init__(cells)
        self.log = []

    def write_cell(self, index, content):
        super().write_cell(index, content)
        self.log.append(index)


class PlainChest:
    """Points 29 to 32 without cells: all copies as dicts, in the order of their addresses."""

    def __init__(self, lines, fresh):
        self.lines, self.day, self.copies, self.next = lines, 0, [], 2
        self.add(fresh)

    def add(self, fresh):
        added = []
        for page, text, links, entry in fresh:
            self.copies.append({"address": self.next, "page": page, "day": self.day, "text": text,
                                "links": list(links), "entry": entry, "lines": []})
            added.append(self.next)
            self.next += self.lines + 1
        return added

    def commit(self, fresh, notes):
        self.day += 1
        added = self.add(fresh)
        for address, change, links in notes:
            self.copy(address)["lines"].append((self.day, change, list(links)))
        return added

    def copy(self, address):
        return [copy for copy in self.copies if copy["address"] == address][0]

    def live(self):
        return {copy["page"]: copy for copy in self.copies}

    def look(self, copy, day):
        changes, links = [], dict(copy["links"])
        for made, change, more in copy["lines"]:
            if made <= day:
                changes += [(made, change)] if change is not None else []
                links.update(more)
        shown = sorted((target, address) for target, address in links.items() if address is not None)
        return copy["page"], copy["text"], changes, shown

    def entries(self, day):
        return {copy["entry"]: copy["address"] for copy in self.copies
                if copy["entry"] is not None and copy["day"] <= day}

    def reached(self, day):
        known = {copy["address"] for copy in self.copies}
        found, waiting = set(), list(self.entries(day).values())
        while waiting:
            address = waiting.pop()
            if address in known and address not in found:
                found.add(address)
                waiting += [other for _, other in self.look(self.copy(address), day)[3]]
        return sorted(found)


def drawn_day(draw, plain, pages):
    """New copies and notes that the next day may have."""
    start = plain.next
    count = draw.choice([0, 0, 1, 1, 2, 3])
    added = [start + at * (plain.lines + 1) for at in range(count)]
    known = [copy["address"] for copy in plain.copies] + added + [1, 3, 10 ** 6]

    def links(end):
        return [(draw.randrange(pages), draw.choice([None, None, *known] if end else known))
                for _ in range(draw.randrange(4))]

    def text():
        return draw.choice(["a", "b", 7, (1, ("x", None)), ""])

    fresh = [(draw.randrange(pages), draw.choice([None, text()]), links(False), draw.choice([None, None, 0, 1, 5]))
             for _ in range(count)]
    room = {copy["address"]: plain.lines - len(copy["lines"]) for copy in plain.live().values()}
    room.update({address: plain.lines for address in added})
    notes = []
    for _ in range(draw.randrange(5) if count else 1):
        open_ones = [address for address, left in room.items() if left > 0]
        if open_ones:
            address = draw.choice(open_ones)
            room[address] -= 1
            notes.append((address, draw.choice([None, text()]), links(True)))
    return fresh, notes


class ChestCase(unittest.TestCase):
    def refused(self, error, call, *arguments):
        with self.assertRaises(error) as caught:
            call(*arguments)
        return caught.exception

    def told(self, chest):
        """All that a chest tells."""
        stored = chest.stored()
        days = chest.days()
        entries = chest.entry_list()
        leads = {}
        for number in entries:
            for day in days:
                try:
                    leads[number, day] = chest.entry_address(number, day)
                except NoEntry:
                    leads[number, day] = None
        return deepcopy((
            chest.lines, chest.today, days, chest.next_address(), stored, entries, leads,
            [(page, chest.live(page), chest.blank_of(page)) for page in sorted({page for _, page, _ in stored})],
            [chest.look(address, day) for address, _, _ in stored for day in range(chest.today + 2)],
            [chest.reached(day) for day in days]))

    def check(self, chest, plain):
        """The chest tells what the plain one tells, and a chest made anew does, too."""
        self.assertEqual([chest.lines, chest.today], [plain.lines, plain.day])
        self.assertEqual(chest.days(), list(range(plain.day + 1)))
        self.assertEqual(chest.stored(), [(copy["address"], copy["page"], copy["day"]) for copy in plain.copies])
        self.assertEqual(chest.next_address(), plain.next)
        for page, copy in plain.live().items():
            self.assertEqual(chest.live(page), copy["address"])
            self.assertEqual(chest.blank_of(page), plain.lines - len(copy["lines"]))
        for day in range(-1, plain.day + 2):
            for copy in plain.copies:
                self.assertEqual(chest.look(copy["address"], day), plain.look(copy, day))
        numbers = {copy["entry"] for copy in plain.copies} - {None}
        self.assertEqual(chest.entry_list(), sorted(numbers))
        for day in chest.days():
            self.assertEqual(chest.reached(day), plain.reached(day))
            for number in [*numbers, 77]:
                if number in plain.entries(day):
                    self.assertEqual(chest.entry_address(number, day), plain.entries(day)[number])
                else:
                    self.assertEqual(self.refused(NoEntry, chest.entry_address, number, day).entry, number)
        cells, writes = chest.disk.cells(), chest.disk.writes
        self.assertEqual(self.told(Chest(chest.disk)), self.told(chest))
        self.assertEqual([chest.disk.cells(), chest.disk.writes], [cells, writes])


class ExamplesTest(ChestCase):
    def test_example(self):
        chest = Chest.begun(Disk(), 2, [(0, "top", [(1, 5)], 0), (1, "leaf", [], None)])
        added = chest.commit_day([(1, "new", [], None)], [(2, None, [(1, 8)])])
        self.assertEqual(
            [added, chest.today, chest.look(2, 0), chest.look(2, 1), chest.live(1), chest.reached(0)],
            [[8], 1, (0, "top", [], [(1, 5)]), (0, "top", [], [(1, 8)]), 8, [2, 5]])


class BegunTest(ChestCase):
    def test_day_0(self):
        for lines in [0, 1, 2, 60]:
            disk = LoggedDisk()
            second, third = 3 + lines, 4 + 2 * lines
            fresh = [(4, "a", [(7, third)], 3), (7, "b", [], None), (7, None, [(4, 2)], 3)]
            chest = Chest.begun(disk, lines, fresh)
            self.assertIs(chest.disk, disk)
            self.assertEqual(disk.log[-1], 0)
            self.assertEqual([chest.lines, chest.today, chest.days()], [lines, 0, [0]])
            self.assertEqual(chest.stored(), [(2, 4, 0), (second, 7, 0), (third, 7, 0)])
            self.assertEqual(chest.next_address(), third + lines + 1)
            self.assertEqual([chest.live(4), chest.live(7)], [2, third])
            self.assertEqual([chest.blank_of(4), chest.blank_of(7)], [lines, lines])
            self.assertEqual(chest.entry_address(3, 0), third)
            self.assertEqual(chest.reached(0), [2, third])
            self.check(chest, PlainChest(lines, fresh))

    def test_lists_are_copied(self):
        links = [(1, 5)]
        fresh = [(0, "a", links, 0), (1, "b", [], None)]
        chest = Chest.begun(Disk(), 2, fresh)
        told = self.told(chest)
        links.append((1, 9))
        fresh.clear()
        self.assertEqual(self.told(chest), told)
        notes, more = [(2, "c", links)], [(1, "d", links, None)]
        chest.commit_day(more, notes)
        told = self.told(chest)
        links.clear()
        notes.clear()
        more.clear()
        for rows in [chest.days(), chest.stored(), chest.entry_list(), chest.reached(1), *chest.look(2, 1)[2:]]:
            rows.clear()
        self.assertEqual(self.told(chest), told)
        self.assertEqual(chest.look(2, 1), (0, "a", [(1, "c")], [(1, 9)]))


class DaysTest(ChestCase):
    def begun(self, lines=3):
        return Chest.begun(Disk(), lines, [(0, "top", [(1, 3 + lines)], 0), (1, "leaf", [], None)])

    def test_days_without_new_copies(self):
        chest = self.begun()
        self.assertEqual(chest.commit_day([], [(2, "one", [])]), [])
        self.assertEqual(chest.commit_day([], [(6, None, [])]), [])
        self.assertEqual(chest.commit_day([], [(2, None, [(1, None), (4, 2)])]), [])
        self.assertEqual(chest.look(2, 3), (0, "top", [(1, "one")], [(4, 2)]))
        self.assertEqual(chest.look(2, 2), (0, "top", [(1, "one")], [(1, 6)]))
        self.assertEqual(chest.look(2, 0), (0, "top", [], [(1, 6)]))
        self.assertEqual(chest.look(6, 3), (1, "leaf", [], []))
        self.assertEqual([chest.blank_of(0), chest.blank_of(1), chest.next_address()], [1, 2, 10])
        self.assertEqual([chest.today, chest.days()], [3, [0, 1, 2, 3]])

    def test_several_copies_of_a_page_on_a_day(self):
        chest = self.begun()
        added = chest.commit_day(
            [(1, "first", [], 8), (0, "top two", [(1, 10)], 0), (1, "second", [], 8)], [(10, "x", []), (18, "y", [])])
        self.assertEqual(added, [10, 14, 18])
        self.assertEqual([chest.live(1), chest.live(0), chest.blank_of(1)], [18, 14, 2])
        self.assertEqual([chest.entry_address(8, 1), chest.entry_address(0, 1), chest.entry_address(0, 0)], [18, 14, 2])
        self.assertEqual(chest.look(10, 1), (1, "first", [(1, "x")], []))
        self.assertEqual(chest.reached(1), [10, 14, 18])
        self.assertEqual(self.refused(NoCopy, chest.commit_day, [], [(10, "z", [])]).address, 10)
        self.assertEqual(self.refused(NoEntry, chest.entry_address, 8, 0).entry, 8)

    def test_several_links_to_one_target_in_a_list(self):
        chest = Chest.begun(Disk(), 3, [(0, "a", [(1, 6), (2, 7), (1, 9), (2, 8)], 0)])
        self.assertEqual(chest.look(2, 0), (0, "a", [], [(1, 9), (2, 8)]))
        chest.commit_day([], [(2, None, [(1, None), (1, 5), (2, 4), (2, None), (3, None)])])
        self.assertEqual(chest.look(2, 1), (0, "a", [], [(1, 5)]))
        chest.commit_day([], [(2, None, [(2, 3), (1, None)])])
        self.assertEqual(chest.look(2, 2), (0, "a", [], [(2, 3)]))
        self.assertEqual(chest.look(2, 1), (0, "a", [], [(1, 5)]))

    def test_several_notes_on_a_copy(self):
        chest = self.begun()
        chest.commit_day([(1, "new", [], None)], [(2, "a", [(1, 9)]), (10, 5, []), (2, ("b",), [(1, 10)]), (2, None, [])])
        self.assertEqual(chest.look(2, 1), (0, "top", [(1, "a"), (1, ("b",))], [(1, 10)]))
        self.assertEqual(chest.look(10, 1), (1, "new", [(1, 5)], []))
        self.assertEqual([chest.blank_of(0), chest.blank_of(1)], [0, 2])

    def test_a_note_on_a_copy_that_was_live_before_the_day(self):
        chest = self.begun()
        chest.commit_day([(1, "new", [], None)], [(6, "late", []), (10, "early", [])])
        self.assertEqual(chest.look(6, 1), (1, "leaf", [(1, "late")], []))
        self.assertEqual(self.refused(NoCopy, chest.commit_day, [], [(6, "again", [])]).address, 6)

    def test_ahead_of_the_day_of_the_copy(self):
        chest = self.begun()
        chest.commit_day([], [(2, "x", [])])
        chest.commit_day([(1, "new", [(0, 2), (5, None)], None)], [(10, "y", [(0, 14)])])
        for day in [-3, 0, 1]:
            self.assertEqual(chest.look(10, day), (1, "new", [], [(0, 2)]))
        for day in [2, 3, 900]:
            self.assertEqual(chest.look(10, day), (1, "new", [(2, "y")], [(0, 14)]))

    def test_texts_of_every_kind(self):
        for text in ["", "text", 0, -9, None, (), (1, ("a", (None,)))]:
            chest = Chest.begun(Disk(), 2, [(0, text, [], 0)])
            chest.commit_day([], [(2, text, [])])
            chest.commit_day([(1, text, [], 3)], [])
            self.assertEqual(chest.look(2, 9), (0, text, [] if text is None else [(1, text)], []))
            self.assertEqual(chest.look(5, 9), (1, text, [], []))

    def test_reached(self):
        chest = Chest.begun(Disk(), 1, [(0, "a", [(1, 4), (9, 3), (8, 10 ** 9)], 0), (1, "b", [(0, 2), (7, -5)], None),
                                        (2, "c", [(0, 2)], None), (3, "d", [], 4)])
        self.assertEqual(chest.reached(0), [2, 4, 8])
        chest.commit_day([(2, "c", [(2, 6)], 9)], [])
        self.assertEqual([chest.reached(0), chest.reached(1)], [[2, 4, 8], [2, 4, 6, 8, 10]])
        chest.commit_day([], [(2, None, [(1, None)])])
        self.assertEqual([chest.reached(0), chest.reached(1), chest.reached(2)],
                         [[2, 4, 8], [2, 4, 6, 8, 10], [2, 6, 8, 10]])
        self.assertEqual(Chest.begun(Disk(), 1, [(0, "a", [], None)]).reached(0), [])

    def test_drawn_days(self):
        draw = drawn(101)
        for lines in [0, 1, 2, 3, 7]:
            fresh = [(page, str(page), [], draw.choice([None, 0, 1])) for page in range(4)]
            chest, plain = Chest.begun(Disk(), lines, fresh), PlainChest(lines, fresh)
            for _ in range(25):
                new, notes = drawn_day(draw, plain, 6)
                if new or notes:
                    self.assertEqual(chest.commit_day(new, notes), plain.commit(new, notes))
                self.check(chest, plain)

    def test_going_on_with_a_chest_made_anew(self):
        draw = drawn(102)
        fresh = [(0, "a", [], 0), (1, "b", [], None)]
        chest, plain = Chest.begun(Disk(), 3, fresh), PlainChest(3, fresh)
        for _ in range(30):
            chest = Chest(draw.choice([chest.disk, Disk(chest.disk.cells())]))
            new, notes = drawn_day(draw, plain, 3)
            if new or notes:
                self.assertEqual(chest.commit_day(new, notes), plain.commit(new, notes))
            self.check(chest, plain)


class WritesTest(ChestCase):
    def test_order_and_number(self):
        disk = LoggedDisk()
        chest = Chest.begun(disk, 3, [(0, "a", [(1, 6)], 0), (1, "b", [], None)])
        for fresh, notes, expected in [
            ([], [(2, "x", [])], [3, 0]),
            ([(1, "c", [], None)], [(2, None, [(1, 10)]), (10, "y", []), (2, "z", []), (6, "w", [])],
             [10, 4, 11, 5, 7, 0]),
            ([(0, "d", [], 0), (2, "e", [], 1), (0, "f", [], 0)], [], [14, 18, 22, 0]),
            ([(3, "g", [], None)], [(18, "v", []), (26, "u", [])], [26, 19, 27, 0]),
            ([], [(22, None, [(1, 18)])], [23, 0]),
        ]:
            disk.log.clear()
            writes = disk.writes
            chest.commit_day(fresh, notes)
            self.assertEqual(disk.log, expected)
            self.assertEqual(disk.writes, writes + len(expected))

    def test_records_take_one_cell_more_than_lines(self):
        chest = Chest.begun(Disk(), 4, [(0, "a", [], 0)])
        for at in range(4):
            chest.commit_day([], [(2, at, [])])
        self.assertEqual(len(chest.disk), 7)
        self.assertNotIn(None, chest.disk.cells()[2:])
        self.assertEqual(chest.commit_day([(0, "b", [], 0)], []), [7])

    def test_stopped_at_each_place_of_a_day(self):
        fresh = [(1, "c", [], None), (2, "d", [], 7)]
        notes = [(2, None, [(1, 10)]), (14, "y", []), (2, "z", [])]
        places = [10, 14, 3, 15, 4, 0]
        for allowed in range(7):
            chest = Chest.begun(LoggedDisk(), 3, [(0, "a", [(1, 6)], 0), (1, "b", [], None)])
            disk, before = chest.disk, chest.disk.cells()
            disk.log.clear()
            writes = disk.writes
            disk.allow(allowed)
            if allowed < 6:
                self.assertEqual(self.refused(Stopped, chest.commit_day, fresh, notes).writes, writes + allowed)
            else:
                chest.commit_day(fresh, notes)
            self.assertEqual(disk.log, places[:allowed])
            for index, content in enumerate(before):
                if index not in places[:allowed]:
                    self.assertEqual(disk.read_cell(index), content)
            disk.allow(None)
            disk.write_cell(99, "goes on")
            self.assertEqual(disk.read_cell(99), "goes on")

    def test_stopped_on_day_0(self):
        fresh = [(0, "a", [], 0), (1, "b", [], None)]
        needed = Chest.begun(Disk(), 3, fresh).disk.writes
        for allowed in range(needed):
            disk = Disk()
            disk.allow(allowed)
            self.assertEqual(self.refused(Stopped, Chest.begun, disk, 3, fresh).writes, allowed)
        disk = Disk()
        disk.allow(needed)
        self.assertEqual(Chest.begun(disk, 3, fresh).today, 0)


class ErrorsTest(ChestCase):
    def chest(self, lines=2):
        chest = Chest.begun(LoggedDisk(), lines, [(0, "a", [(1, 5)], 0), (1, "b", [], None)])
        chest.commit_day([(1, "c", [], 6)], [(2, "x", [(1, 8)])])
        return chest

    def commit_refused(self, error, fresh, notes):
        chest = self.chest()
        told, cells, writes = self.told(chest), chest.disk.cells(), chest.disk.writes
        found = self.refused(error, chest.commit_day, fresh, notes)
        self.assertEqual([chest.disk.cells(), chest.disk.writes], [cells, writes])
        self.assertEqual(self.told(chest), told)
        return found

    def test_no_copy(self):
        for address in [5, 3, 11, 14, 0, 1, -1, 10 ** 9]:
            self.assertEqual(self.commit_refused(NoCopy, [], [(address, "y", [])]).address, address)
            self.assertEqual(
                self.commit_refused(NoCopy, [], [(2, "y", []), (address, "y", []), (99, "y", [])]).address, address)
        fresh = [(1, "d", [], None), (2, "e", [], None)]
        for address in [17, 12, 5]:
            self.assertEqual(self.commit_refused(NoCopy, fresh, [(11, "y", []), (address, "y", [])]).address, address)

    def test_no_copy_ahead_of_no_line(self):
        notes = [(2, "y", []), (2, "y", []), (8, "y", []), (99, "y", [])]
        self.assertEqual(self.commit_refused(NoCopy, [], notes).address, 99)
        self.assertEqual(self.commit_refused(NoLine, [], notes[:3]).page, 0)

    def test_no_line_for_the_first_note(self):
        fresh = [(7, "d", [], None), (9, "e", [], None)]
        row = [(8, 1, []), (14, 1, []), (14, 2, []), (8, 2, []), (11, 1, [])]
        self.assertEqual(self.commit_refused(NoLine, fresh, row + [(14, 3, []), (8, 3, [])]).page, 9)
        self.assertEqual(self.commit_refused(NoLine, fresh, row + [(8, 3, []), (14, 3, [])]).page, 1)
        self.assertEqual(self.commit_refused(NoLine, fresh, row + [(11, 1, []), (11, 3, []), (2, 1, [])]).page, 7)
        chest = self.chest()
        self.assertEqual(chest.commit_day(fresh, row), [11, 14])

    def test_no_lines_at_all(self):
        chest = Chest.begun(Disk(), 0, [(3, "a", [], 0)])
        self.assertEqual(self.refused(NoLine, chest.commit_day, [], [(2, "x", [])]).page, 3)
        self.assertEqual(self.refused(NoLine, chest.commit_day, [(4, "b", [], None)], [(3, "x", [])]).page, 4)
        self.assertEqual(self.refused(NoCopy, chest.commit_day, [(4, "b", [], None)], [(4, "x", [])]).address, 4)
        self.assertEqual(chest.commit_day([(4, "b", [], None)], []), [3])
        self.assertEqual([chest.blank_of(3), chest.blank_of(4), chest.next_address()], [0, 0, 4])

    def test_no_page(self):
        chest = self.chest()
        for page in [2, -1, 8]:
            self.assertEqual(self.refused(NoPage, chest.live, page).page, page)
            self.assertEqual(self.refused(NoPage, chest.blank_of, page).page, page)

    def test_no_day_ahead_of_no_entry(self):
        chest = self.chest()
        for day in [2, -1, 50]:
            self.assertEqual(self.refused(NoDay, chest.entry_address, 0, day).day, day)
            self.assertEqual(self.refused(NoDay, chest.entry_address, 77, day).day, day)
            self.assertEqual(self.refused(NoDay, chest.reached, day).day, day)
        for number in [1, -1, 77]:
            self.assertEqual(self.refused(NoEntry, chest.entry_address, number, 1).entry, number)
        self.assertEqual(self.refused(NoEntry, chest.entry_address, 6, 0).entry, 6)
        self.assertEqual([chest.entry_address(6, 1), chest.entry_list()], [8, [0, 6]])

    def test_look_at_no_copy(self):
        chest = self.chest()
        for address in [0, 1, 3, 4, 6, 9, 11, -1, 10 ** 9]:
            for day in [0, 1, 9]:
                self.assertEqual(self.refused(NoCopy, chest.look, address, day).address, address)


if __name__ == "__main__":
    unittest.main()
