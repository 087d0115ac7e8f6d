"""Point 43 and the interface of onecopy.stretches."""

import unittest
from itertools import product

from onecopy.errors import CopiesDiffer
from onecopy.stretches import Stretch, parting
from tests.helpers import drawn


def plain_heights(blank, copies):
    """Point 39, word by word, from the last page up."""
    found = []
    for number in reversed(blank):
        below = found[0] if found else 0
        if number >= 2:
            found.insert(0, 0)
        elif number == 1:
            found.insert(0, 1 if below >= copies else 0)
        else:
            found.insert(0, below + 1)
    return found


def plain_keepable(blank, copies):
    return max(plain_heights(blank, copies), default=0) <= copies


def plain_lift(blank, copies):
    """The height of the first page over so many pages without a blank line, which have this height."""
    found = []
    for below in range(copies + 1):
        heights = plain_heights(list(blank) + [0] * below, copies)
        found.append((heights[0] if heights else 0) if max(heights, default=0) <= copies else None)
    return found


def short_stretches(longest):
    return [list(blank) for size in range(longest + 1) for blank in product(range(3), repeat=size)]


class StretchCase(unittest.TestCase):
    def differ(self, call, *arguments):
        with self.assertRaises(CopiesDiffer) as caught:
            call(*arguments)
        return [caught.exception.left, caught.exception.right]


class ExamplesTest(StretchCase):
    def test_example(self):
        self.assertEqual(
            [Stretch([1, 0], 1).lift(), Stretch([0], 1).lift(), (Stretch([0], 1) + Stretch([1, 0], 1)).is_keepable()],
            [[1, None], [1, None], False])


class LiftTest(StretchCase):
    def test_empty_stretch(self):
        for copies in [1, 2, 3, 20]:
            stretch = Stretch([], copies)
            self.assertEqual(stretch.lift(), list(range(copies + 1)))
            self.assertEqual(stretch.copies, copies)
            self.assertIs(stretch.is_keepable(), True)

    def test_single_pages(self):
        for copies in [1, 2, 5]:
            self.assertEqual(Stretch([0], copies).lift(), list(range(1, copies + 1)) + [None])
            self.assertEqual(Stretch([1], copies).lift(), [0] * copies + [1])
            for number in [2, 3, 60]:
                self.assertEqual(Stretch([number], copies).lift(), [0] * (copies + 1))

    def test_short_stretches(self):
        for copies in [1, 2, 3, 4]:
            for blank in short_stretches(5):
                stretch = Stretch(blank, copies)
                self.assertEqual(stretch.lift(), plain_lift(blank, copies))
                self.assertIs(stretch.is_keepable(), plain_keepable(blank, copies))

    def test_long_stretches(self):
        draw = drawn(121)
        for copies in [1, 2, 5, 30]:
            for _ in range(20):
                blank = [draw.choice([0, 0, 0, 1, 2] if copies > 1 else [0, 1, 2, 2]) for _ in range(400)]
                self.assertEqual(Stretch(blank, copies).lift(), plain_lift(blank, copies))
            chain = ([1] + [0] * (copies - 1)) * 300
            self.assertEqual(Stretch(chain, copies).lift(), plain_lift(chain, copies))
            self.assertEqual(Stretch([0] * copies + chain + [0], copies).lift(), [None] * (copies + 1))

    def test_lists_are_copied(self):
        blank = [1, 0]
        stretch = Stretch(blank, 2)
        told = list(stretch.lift())
        blank.append(0)
        stretch.lift().clear()
        self.assertEqual(stretch.lift(), told)


class SumTest(StretchCase):
    def test_joined_lists(self):
        for copies in [1, 2, 3]:
            for first in short_stretches(3):
                for second in short_stretches(3):
                    total = Stretch(first, copies) + Stretch(second, copies)
                    self.assertIsInstance(total, Stretch)
                    self.assertEqual(total.copies, copies)
                    self.assertEqual(total.lift(), plain_lift(first + second, copies))
                    self.assertTrue(total == Stretch(first + second, copies))
                    self.assertIs(total.is_keepable(), plain_keepable(first + second, copies))

    def test_long_sums(self):
        draw = drawn(122)
        for copies in [1, 3, 8]:
            blank, total = [], Stretch([], copies)
            for _ in range(60):
                more = [draw.choice([0, 1, 2, 2]) for _ in range(draw.randrange(5))]
                if draw.random() < 0.5:
                    blank, total = blank + more, total + Stretch(more, copies)
                else:
                    blank, total = more + blank, Stretch(more, copies) + total
                self.assertEqual(total.lift(), plain_lift(blank, copies))

    def test_the_parts_stay(self):
        first, second = Stretch([0], 2), Stretch([1, 0], 2)
        total = first + second
        total.lift().clear()
        self.assertEqual([first.lift(), second.lift()], [plain_lift([0], 2), plain_lift([1, 0], 2)])
        self.assertEqual(total.lift(), plain_lift([0, 1, 0], 2))

    def test_copies_differ(self):
        self.assertEqual(self.differ(lambda: Stretch([0], 1) + Stretch([0], 2)), [1, 2])
        self.assertEqual(self.differ(lambda: Stretch([], 7) + Stretch([], 3)), [7, 3])


class EqualityTest(StretchCase):
    def test_equal_lifts(self):
        self.assertTrue(Stretch([1, 0], 1) == Stretch([0], 1))
        self.assertFalse(Stretch([1, 0], 2) == Stretch([0], 2))
        self.assertFalse(Stretch([0], 1) != Stretch([1, 0], 1))
        self.assertTrue(Stretch([2], 3) == Stretch([5, 0, 9], 3) + Stretch([3], 3))
        for copies in [1, 2]:
            for first in short_stretches(3):
                for second in short_stretches(3):
                    self.assertIs(Stretch(first, copies) == Stretch(second, copies),
                                  plain_lift(first, copies) == plain_lift(second, copies))

    def test_other_copies(self):
        self.assertIs(Stretch([], 1) == Stretch([], 2), False)
        self.assertIs(Stretch([2], 1) == Stretch([2], 3), False)

    def test_no_stretch(self):
        for other in [[1, None], None, 1, "x", (), [[0], 1]]:
            self.assertIs(Stretch([0], 1) == other, False)
            self.assertIs(other == Stretch([0], 1), False)


class PartingTest(StretchCase):
    def check_parting(self, first, second, copies):
        found = parting(Stretch(first, copies), Stretch(second, copies))
        if plain_lift(first, copies) == plain_lift(second, copies):
            self.assertIsNone(found)
        else:
            above, below = found
            self.assertIsInstance(found, tuple)
            self.assertTrue(all(number >= 0 for number in above + below))
            self.assertNotEqual(plain_keepable(above + first + below, copies),
                                plain_keepable(above + second + below, copies))

    def test_all_pairs_of_short_stretches(self):
        for copies in [1, 2, 3]:
            for first in short_stretches(4 if copies == 3 else 3):
                for second in short_stretches(3):
                    self.check_parting(first, second, copies)

    def test_equal_stretches_stand_for_one_another(self):
        draw = drawn(123)
        for _ in range(2000):
            copies = draw.randint(1, 3)
            first, second, above, below = [
                [draw.choice([0, 0, 1, 2]) for _ in range(draw.randrange(6))] for _ in range(4)]
            if parting(Stretch(first, copies), Stretch(second, copies)) is None:
                self.assertIs(plain_keepable(above + first + below, copies),
                              plain_keepable(above + second + below, copies))

    def test_long_stretches(self):
        draw = drawn(124)
        for copies in [1, 4, 12]:
            for _ in range(60):
                pair = [[draw.choice([0, 0, 0, 0, 1]) for _ in range(draw.randrange(copies + 4))] for _ in range(2)]
                self.check_parting(*pair, copies)

    def test_copies_differ(self):
        self.assertEqual(self.differ(parting, Stretch([0], 1), Stretch([0], 2)), [1, 2])
        self.assertEqual(self.differ(parting, Stretch([2], 5), Stretch([2], 1)), [5, 1])

    def test_lists_are_new(self):
        first, second = Stretch([0, 0], 3), Stretch([0], 3)
        found = parting(first, second)
        found[0].append(9)
        found[1].append(9)
        self.check_parting([0, 0], [0], 3)
        self.assertEqual([first.lift(), second.lift()], [plain_lift([0, 0], 3), plain_lift([0], 3)])


if __name__ == "__main__":
    unittest.main()
