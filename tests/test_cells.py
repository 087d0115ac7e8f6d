"""Points 28 and 37 (of a write) and the interface of onecopy.cells."""

import unittest

from onecopy.cells import Disk
from onecopy.errors import InvalidAllowance, Stopped
from tests.helpers import drawn


class DiskCase(unittest.TestCase):
    def refused(self, error, call, *arguments):
        with self.assertRaises(error) as caught:
            call(*arguments)
        return caught.exception

    def told(self, disk):
        return (disk.cells(), len(disk), disk.writes, disk.allowance)

    def stopped(self, disk, index=0, content=9):
        """The writes that a Stopped tells; nothing may change."""
        told = self.told(disk)
        error = self.refused(Stopped, disk.write_cell, index, content)
        self.assertEqual(self.told(disk), told)
        self.assertEqual(error.writes, disk.writes)


class CellsTest(DiskCase):
    def test_new_disks(self):
        self.assertEqual(self.told(Disk()), ([], 0, 0, None))
        self.assertEqual(self.told(Disk(None)), ([], 0, 0, None))
        self.assertEqual(self.told(Disk([])), ([], 0, 0, None))
        self.assertEqual(self.told(Disk([None, 3])), ([None, 3], 2, 0, None))
        self.assertEqual(self.told(Disk(cells=["a"])), (["a"], 1, 0, None))

    def test_read(self):
        disk = Disk(["a", None, 0])
        self.assertEqual([disk.read_cell(index) for index in [0, 1, 2, 3, 1000]], ["a", None, 0, None, None])
        self.assertEqual(len(disk), 3)
        self.assertIsNone(Disk().read_cell(0))

    def test_write(self):
        disk = Disk(["a", "b"])
        disk.write_cell(1, "c")
        disk.write_cell(2, "d")
        disk.write_cell(0, None)
        self.assertEqual(self.told(disk), ([None, "c", "d"], 3, 3, None))

    def test_write_far_behind_the_last_cell(self):
        disk = Disk()
        disk.write_cell(5, "far")
        self.assertEqual(self.told(disk), ([None] * 5 + ["far"], 6, 1, None))
        disk.write_cell(900, 1)
        self.assertEqual([len(disk), disk.writes, disk.read_cell(899), disk.read_cell(900)], [901, 2, None, 1])
        disk.write_cell(902, None)
        self.assertEqual([len(disk), disk.read_cell(902), disk.cells()[-3:]], [903, None, [1, None, None]])

    def test_contents(self):
        for content in [None, 0, -7, 10 ** 40, "", "text", (), (1, "a", None), ((1, ("b", ())), None, (("c",),))]:
            disk = Disk()
            disk.write_cell(1, content)
            self.assertEqual(disk.read_cell(1), content)
            self.assertEqual(disk.cells(), [None, content])
            self.assertEqual(Disk(disk.cells()).read_cell(1), content)

    def test_lists_are_copies(self):
        cells = [1, 2]
        disk = Disk(cells)
        cells.append(3)
        cells[0] = 9
        self.assertEqual(disk.cells(), [1, 2])
        told = disk.cells()
        told.clear()
        self.assertEqual(disk.cells(), [1, 2])
        told = disk.cells()
        disk.write_cell(0, "new")
        self.assertEqual([told, cells], [[1, 2], [9, 2, 3]])

    def test_disks_have_nothing_in_common(self):
        first, second = Disk(), Disk()
        first.write_cell(0, 1)
        first.allow(4)
        self.assertEqual(self.told(second), ([], 0, 0, None))

    def test_against_a_dict(self):
        draw = drawn(91)
        disk, known = Disk(), {}
        for count in range(1, 400):
            index, content = draw.randrange(60), draw.choice([None, count, str(count), (count, ("x",))])
            disk.write_cell(index, content)
            known[index] = content
            self.assertEqual(disk.writes, count)
            self.assertEqual(disk.cells(), [known.get(at) for at in range(max(known) + 1)])


class AllowanceTest(DiskCase):
    def test_none_is_no_limit(self):
        disk = Disk()
        for index in range(300):
            disk.write_cell(index, index)
        self.assertEqual([disk.allowance, disk.writes], [None, 300])

    def test_zero(self):
        disk = Disk(["a"])
        disk.allow(0)
        self.stopped(disk, 0)
        self.stopped(disk, 7)
        self.stopped(disk, 7, None)
        self.assertEqual(self.told(disk), (["a"], 1, 0, 0))

    def test_it_falls_with_each_write(self):
        disk = Disk()
        disk.allow(3)
        seen = []
        for index in [4, 4, 0]:
            disk.write_cell(index, "x")
            seen.append(disk.allowance)
        self.assertEqual(seen, [2, 1, 0])
        self.stopped(disk, 1)
        self.assertEqual(disk.writes, 3)

    def test_used_on_after_a_stop(self):
        disk = Disk()
        disk.allow(1)
        disk.write_cell(0, 1)
        self.stopped(disk)
        self.assertEqual(disk.read_cell(0), 1)
        disk.allow(2)
        disk.write_cell(0, 2)
        disk.allow(None)
        for index in range(5):
            disk.write_cell(index, 3)
        self.assertEqual(self.told(disk), ([3] * 5, 5, 7, None))
        disk.allow(0)
        self.stopped(disk)

    def test_assigned_and_set(self):
        for number in [0, 1, 77, None]:
            disk, other = Disk(), Disk()
            disk.allowance = number
            self.assertIsNone(other.allow(number))
            self.assertEqual([disk.allowance, other.allowance], [number, number])
        disk.allowance = 1
        disk.write_cell(2, 2)
        self.stopped(disk)
        disk.allowance = None
        disk.write_cell(0, 0)
        self.assertEqual(disk.cells(), [0, None, 2])

    def test_invalid_allowance(self):
        for before in [None, 0, 5]:
            disk = Disk(["a"])
            disk.write_cell(0, "b")
            disk.allow(before)
            told = self.told(disk)
            for allowed in [-1, -60]:
                self.assertEqual(self.refused(InvalidAllowance, disk.allow, allowed).allowed, allowed)
                with self.assertRaises(InvalidAllowance) as caught:
                    disk.allowance = allowed
                self.assertEqual(caught.exception.allowed, allowed)
                self.assertEqual(self.told(disk), told)


if __name__ == "__main__":
    unittest.main()
