"""Points 66 and 67 and the interface of onecopy.desk."""

import unittest

from onecopy.cells import Disk
from onecopy.desk import Desk
from onecopy.errors import (
    BadCommand, NoDay, NoKey, NotHeld, NothingToRedo, NothingToUndo, OnecopyError, Stopped, TooFewLines)
from onecopy.holds import Holds
from onecopy.recovery import recover_store
from onecopy.store import Store
from tests.helpers import drawn


class PlainDesk:
    """Points 66 and 67 on a plain record of all days. run returns the shown text, or the error's name and word."""

    def __init__(self):
        self.pairs, self.readable, self.counts, self.deeds, self.undone = [{}], [0], {}, [], []

    def new_day(self, key, text):
        pairs = {one: old for one, old in self.pairs[-1].items() if one != key}
        if text is not None:
            pairs[key] = text
        self.pairs.append(pairs)
        self.readable.append(len(self.pairs) - 1)
        return f"day {len(self.pairs) - 1}"

    def deed(self, key, text):
        before = self.pairs[-1].get(key)
        if text is None and before is None:
            return NoKey, key
        self.deeds.append((key, before, text))
        self.undone = []
        return self.new_day(key, text)

    def run(self, word, *more):
        return getattr(self, word)(*more)

    def put(self, key, text):
        return self.deed(key, text)

    def drop(self, key):
        return self.deed(key, None)

    def get(self, key, day=None):
        day = len(self.pairs) - 1 if day is None else day
        if day not in self.readable:
            return NoDay, day
        return self.pairs[day].get(key, (NoKey, key))

    def size(self, day=None):
        day = len(self.pairs) - 1 if day is None else day
        return str(len(self.pairs[day])) if day in self.readable else (NoDay, day)

    def show(self, low, high):
        return " / ".join(" " * (8 - len(str(key))) + f"{key}  {text}"
                          for key, text in sorted(self.pairs[-1].items()) if low <= key < high)

    def undo(self):
        if not self.deeds:
            return NothingToUndo, None
        self.undone.append(self.deeds.pop())
        return self.new_day(self.undone[-1][0], self.undone[-1][1])

    def redo(self):
        if not self.undone:
            return NothingToRedo, None
        self.deeds.append(self.undone.pop())
        return self.new_day(self.deeds[-1][0], self.deeds[-1][2])

    def hold(self, day):
        if day not in self.readable:
            return NoDay, day
        self.counts[day] = self.counts.get(day, 0) + 1
        return f"held {len(self.counts)}"

    def release(self, day):
        if day not in self.counts:
            return NotHeld, day
        self.counts[day] -= 1
        if self.counts[day] == 0:
            del self.counts[day]
        return f"held {len(self.counts)}"

    def sweep(self):
        self.readable = sorted({day for day in self.readable if day in self.counts} | {len(self.pairs) - 1})
        return "freed"


ATTRIBUTES = {NoKey: "key", NoDay: "day", NotHeld: "day"}


class DeskCase(unittest.TestCase):
    def refused(self, error, call, *arguments):
        with self.assertRaises(error) as caught:
            call(*arguments)
        return caught.exception

    def told(self, desk):
        store = desk.store
        return [store.today, store.days(), store.at(store.today).shape(), store.chest.disk.cells(),
                store.chest.disk.writes, desk.holds.held(), [desk.holds.count_of(day) for day in range(store.today)],
                desk.depth()]

    def run_all(self, desk, *lines):
        return [desk.run_line(line) for line in lines]


class ExamplesTest(DeskCase):
    def test_examples(self):
        desk = Desk(4, 5)
        first = [desk.run_line("put 5 old text"), desk.run_line("put 5 new"), desk.run_line("undo")]
        self.assertEqual(first + [desk.run_line("get 5"), desk.run_line("get 5 2"), desk.run_line("size 0")],
                         ["day 1", "day 2", "day 3", "old text", "new", "0"])
        self.assertEqual(self.refused(BadCommand, Desk(4, 5).run_line, "get 05").word, 1)


class MadeDesksTest(DeskCase):
    def test_a_new_store_and_its_holds(self):
        desk = Desk(6, 9)
        self.assertIsInstance(desk.store, Store)
        self.assertIsInstance(desk.holds, Holds)
        self.assertIs(desk.holds.chest, desk.store.chest)
        self.assertEqual([desk.store.size, desk.store.chest.lines, desk.store.today, desk.depth()], [6, 9, 0, (0, 0)])

    def test_too_few_lines(self):
        for size, lines in [(4, 4), (9, 0)]:
            self.assertEqual(self.refused(TooFewLines, Desk, size, lines).page, 0)


class CommandsTest(DeskCase):
    def test_each_command(self):
        desk = Desk(4, 5)
        self.assertEqual(self.run_all(desk, "size", "show 0 9", "put 3 three", "put -4 minus four", "get 3", "get -4 2",
                                      "size", "size 1", "show -9 9"),
                         ["0", "", "day 1", "day 2", "three", "minus four", "2", "1",
                          "      -4  minus four /        3  three"])
        self.assertEqual(self.run_all(desk, "drop 3", "undo", "redo", "undo", "get 3", "hold 1", "hold 2", "hold 2",
                                      "release 2", "release 1", "hold 1"),
                         ["day 3", "day 4", "day 5", "day 6", "three", "held 1", "held 2", "held 2", "held 2",
                          "held 1", "held 2"])
        self.assertEqual([desk.holds.held(), desk.depth()], [[1, 2], (2, 1)])
        self.assertEqual(self.run_all(desk, "sweep", "sweep"), ["freed 0", "freed 0"])
        self.assertEqual(desk.store.days(), [1, 2, 6])

    def test_texts_of_put(self):
        desk = Desk(4, 5)
        for line, text in [("put 1 ", ""), ("put 1  ", " "), ("put 1   two  spaces ", "  two  spaces "),
                           ("put 1 a", "a"), ("put 1 put 2 x", "put 2 x"), ("put 1 ~!\"#$%&'()", "~!\"#$%&'()")]:
            desk.run_line(line)
            self.assertEqual([desk.run_line("get 1"), desk.store.get(1)], [text, text])
        self.assertEqual(desk.run_line("show 1 2"), "       1  ~!\"#$%&'()")
        desk.run_line("put 1 ")
        self.assertEqual(desk.run_line("show 1 2"), "       1  ")

    def test_rows_of_show(self):
        desk = Desk(4, 5)
        keys = [0, 7, -7, 12345678, 123456789, -1234567, -12345678, 10 ** 40 - 1, 1 - 10 ** 40]
        for key in keys:
            desk.run_line(f"put {key} text / {key}")
        rows = [str(key).rjust(8) + f"  text / {key}" for key in sorted(keys)]
        self.assertEqual(desk.run_line(f"show {1 - 10 ** 40} {10 ** 40 - 1}"), " / ".join(rows[:-1]))
        self.assertEqual(desk.run_line("show 0 8"), "       0  text / 0 /        7  text / 7")
        self.assertEqual(desk.run_line("show -7 0"), "      -7  text / -7")
        self.assertEqual(self.run_all(desk, "show 8 0", "show 7 7", "show 1 7", "show -6 0"), ["", "", "", ""])
        self.assertEqual(desk.run_line("show 12345678 999999999"),
                         "12345678  text / 12345678 / 123456789  text / 123456789")

    def test_freed_copies(self):
        desk = Desk(4, 5)
        for key in range(8):
            desk.run_line(f"put {key} x")
        stored = desk.store.chest.stored()
        shown = desk.run_line("sweep")
        self.assertEqual(shown, f"freed {len(stored) - len(desk.store.chest.stored())}")
        self.assertNotEqual(shown, "freed 0")

    def test_long_rows_against_a_plain_desk(self):
        draw = drawn(191)
        seen = {}
        for size, lines, keys in [(4, 5, 12), (4, 9, 60), (6, 7, 200)]:
            desk, plain = Desk(size, lines), PlainDesk()
            for at in range(500):
                day = draw.choice([draw.choice(plain.readable), len(plain.pairs) - 1, len(plain.pairs), -1,
                                   draw.randrange(len(plain.pairs))])
                key = draw.randrange(-keys // 2, keys // 2)
                command = draw.choice([
                    ("put", key, draw.choice(["", "same", f"text {at}"])), ("put", key, f"{at}"), ("put", key, "same"),
                    ("drop", key), ("drop", key), ("get", key), ("get", key, day), ("size",), ("size", day),
                    ("show", key, key + draw.randrange(30)), ("undo",), ("undo",), ("undo",), ("redo",), ("redo",),
                    ("hold", day), ("release", draw.choice([day, *plain.counts])),
                    ("sweep",) if at % 4 == 0 else ("size",)])
                self.check_command(desk, plain, command)
                seen[command[0]] = seen.get(command[0], 0) + 1
            self.assertEqual(dict(desk.store.at(desk.store.today).scan(-10 ** 9, 10 ** 9)), plain.pairs[-1])
        self.assertEqual(len(seen), 10)

    def check_command(self, desk, plain, command):
        line = " ".join(str(word) for word in command)
        told = self.told(desk)
        expected = plain.run(*command)
        if isinstance(expected, tuple):
            error = self.refused(expected[0], desk.run_line, line)
            self.assertEqual(getattr(error, ATTRIBUTES.get(expected[0], "word"), None), expected[1])
            self.assertEqual(self.told(desk), told)
        else:
            self.assertEqual(desk.run_line(line).split(" ")[:1 if expected == "freed" else None], expected.split(" "))
        self.assertEqual([desk.store.today, desk.store.days()], [len(plain.pairs) - 1, plain.readable])
        self.assertEqual([desk.depth(), desk.holds.held()],
                         [(len(plain.deeds), len(plain.undone)), sorted(plain.counts)])


class BadCommandsTest(DeskCase):
    LINES = [
        ("", 0), (" ", 0), (" put 1 x", 0), ("  ", 0), ("unknown", 0), ("PUT 1 x", 0), ("Get 1", 0), ("sizes", 0),
        ("sIze", 0), ("5", 0), ("put\t1 x", 0), ("getx 1", 0), ("quit now", 0), ("day 1", 0),
        ("put", 1), ("put ", 1), ("put  1 x", 1), ("put x y", 1), ("put 01 y", 1), ("put 1", 2), ("put -7", 2),
        ("put -0 x", 1), ("put +1 x", 1), ("put 1.5 x", 1), ("put - x", 1), ("put --1 x", 1), ("put 1- x", 1),
        ("put 00 x", 1), ("put x", 1), ("put  ", 1), ("put 1x", 1),
        ("drop", 1), ("drop ", 1), ("drop 1 2", 2), ("drop 1 ", 2), ("drop x", 1), ("drop 1 x", 2), ("drop  1", 1),
        ("get", 1), ("get ", 1), ("get x", 1), ("get 1 x", 2), ("get 1 ", 2), ("get 1  2", 2), ("get 1 2 3", 3),
        ("get 1 2 ", 3), ("get x 2", 1), ("get 1 02", 2), ("get 1 -0", 2), ("get 1 x y", 2), ("get 05", 1),
        ("size x", 1), ("size ", 1), ("size 1 2", 2), ("size  1", 1), ("size 1 ", 2), ("size +1", 1), ("size x 3", 1),
        ("show", 1), ("show 1", 2), ("show 1 ", 2), ("show x", 1), ("show x 1", 1), ("show 1 x", 2), ("show 1 2 3", 3),
        ("show 1 2 ", 3), ("show  1 2", 1), ("show 1  2", 2), ("show ", 1), ("show 1 x 3", 2),
        ("undo 1", 1), ("undo ", 1), ("undo undo", 1), ("redo ", 1), ("redo x y", 1), ("sweep 1", 1), ("sweep ", 1),
        ("hold", 1), ("hold x", 1), ("hold 1 2", 2), ("hold ", 1), ("hold 01", 1), ("hold 0 ", 2),
        ("release", 1), ("release ", 1), ("release x", 1), ("release 1 2", 2), ("release 1 x", 2), ("Undo", 0),
    ]

    def desk(self):
        desk = Desk(4, 5)
        self.run_all(desk, "put 1 a", "put 2 b", "put 1 c", "undo", "hold 1", "hold 2")
        return desk

    def test_words(self):
        desk = self.desk()
        told = self.told(desk)
        for line, word in self.LINES:
            self.assertEqual(self.refused(BadCommand, desk.run_line, line).word, word, line)
            self.assertEqual(self.told(desk), told)

    def test_numbers_of_many_digits(self):
        desk = self.desk()
        most, many = "9" * 40, "1" + "0" * 40
        self.assertEqual(self.run_all(desk, f"put {most} x", f"put -{most} y", f"get {most}", f"get -{most}"),
                         ["day 5", "day 6", "x", "y"])
        for line, word in [(f"put {many} x", 1), (f"put -{many} x", 1), (f"get {many}", 1), (f"get 1 {many}", 2),
                           (f"show 1 -{many}", 2), (f"hold {many}", 1), (f"put 0{most} x", 1)]:
            self.assertEqual(self.refused(BadCommand, desk.run_line, line).word, word)
        self.assertEqual(self.refused(NoDay, desk.run_line, f"get 1 {most}").day, int(most))
        self.assertEqual(self.refused(NoKey, desk.run_line, "get 0").key, 0)
        self.assertEqual(self.run_all(desk, "put 0 zero", "get 0", "size 0"), ["day 7", "zero", "0"])

    def test_errors_of_the_store_and_the_holds(self):
        desk = self.desk()
        told = self.told(desk)
        for line, error, name, value in [
            ("get 9", NoKey, "key", 9), ("drop 9", NoKey, "key", 9), ("get -1", NoKey, "key", -1),
            ("get 9 77", NoDay, "day", 77), ("get 1 5", NoDay, "day", 5), ("get 1 -1", NoDay, "day", -1),
            ("get 2 1", NoKey, "key", 2), ("size 5", NoDay, "day", 5), ("hold 5", NoDay, "day", 5),
            ("hold -3", NoDay, "day", -3), ("release 3", NotHeld, "day", 3), ("release -3", NotHeld, "day", -3),
        ]:
            self.assertEqual(getattr(self.refused(error, desk.run_line, line), name), value)
            self.assertEqual(self.told(desk), told)

    def test_bad_commands_come_before_other_errors(self):
        desk = Desk(4, 5)
        self.assertEqual(self.refused(BadCommand, desk.run_line, "get 9 77 x").word, 3)
        self.assertEqual(self.refused(BadCommand, desk.run_line, "undo x").word, 1)
        self.assertIsInstance(self.refused(NothingToUndo, desk.run_line, "undo"), OnecopyError)
        self.assertIsInstance(self.refused(NothingToRedo, desk.run_line, "redo"), OnecopyError)


class UndoTest(DeskCase):
    def test_of_new_keys_present_keys_and_drops(self):
        desk = Desk(4, 5)
        self.run_all(desk, "put 1 a", "put 1 b", "put 2 x", "drop 1", "put 2 x")
        self.assertEqual(desk.depth(), (5, 0))
        shown = []
        for word in ["undo"] * 5 + ["redo"] * 5:
            shown.append(desk.run_line(word))
        self.assertEqual(shown, [f"day {day}" for day in range(6, 16)])
        expected = [{2: "x"}, {1: "b", 2: "x"}, {1: "b"}, {1: "a"}, {}, {1: "a"}, {1: "b"}, {1: "b", 2: "x"}, {2: "x"},
                    {2: "x"}]
        found = [dict(desk.store.at(day).scan(0, 9)) for day in range(6, 16)]
        self.assertEqual(found, expected)
        self.assertEqual([dict(desk.store.at(day).scan(0, 9)) for day in range(6)],
                         [{}, {1: "a"}, {1: "b"}, {1: "b", 2: "x"}, {2: "x"}, {2: "x"}])
        self.assertEqual(desk.depth(), (5, 0))

    def test_a_new_deed_forgets_the_undone_ones(self):
        desk = Desk(4, 5)
        self.run_all(desk, "put 1 a", "put 1 b", "put 1 c", "undo", "undo")
        self.assertEqual(desk.depth(), (1, 2))
        for line in ["drop 9", "redo 1", "get 9", "put 1", "hold 99", "release 4"]:
            self.refused(OnecopyError, desk.run_line, line)
            self.assertEqual(desk.depth(), (1, 2))
        for line in ["get 1", "size", "show 0 9", "hold 3", "release 3", "sweep"]:
            desk.run_line(line)
            self.assertEqual(desk.depth(), (1, 2))
        desk.run_line("put 1 a")
        self.assertEqual([desk.depth(), desk.run_line("get 1")], [(2, 0), "a"])
        self.refused(NothingToRedo, desk.run_line, "redo")
        self.run_all(desk, "undo", "drop 1")
        self.assertEqual(desk.depth(), (2, 0))
        self.run_all(desk, "undo", "undo")
        self.assertEqual([desk.depth(), desk.run_line("size")], [(0, 2), "0"])
        self.refused(NothingToUndo, desk.run_line, "undo")
        self.assertEqual([desk.depth(), desk.run_line("redo"), desk.run_line("get 1")], [(0, 2), "day 11", "a"])

    def test_behind_sweeps(self):
        desk = Desk(4, 5)
        for at in range(30):
            desk.run_line(f"put {at % 10} text {at}")
        self.run_all(desk, "drop 5", "sweep")
        self.assertEqual(desk.store.days(), [31])
        for at in range(31):
            self.assertEqual(desk.run_line("undo"), f"day {32 + at}")
            if at % 7 == 0:
                desk.run_line("sweep")
        self.assertEqual([desk.run_line("size"), desk.depth()], ["0", (0, 31)])
        for at in range(31):
            desk.run_line("redo")
        self.assertEqual(desk.run_line("show 0 6"), " / ".join(f"       {at}  text {20 + at}" for at in range(5)))

    def test_stopped(self):
        """A store that was led by a desk can be recovered from its cells."""
        desk = Desk(4, 5)
        for at in range(20):
            desk.run_line(f"put {at} x")
        for line in ["put 20 y", "drop 3", "undo", "sweep"]:
            disk, today = desk.store.chest.disk, desk.store.today
            before = Disk(disk.cells())
            disk.allow(0)
            self.refused(Stopped, desk.run_line, line)
            self.assertEqual(disk.cells(), before.cells())
            disk.allow(None)
            self.assertEqual(recover_store(disk).today, today)
            desk = Desk(4, 5)
            for at in range(20):
                desk.run_line(f"put {at} x")


if __name__ == "__main__":
    unittest.main()
