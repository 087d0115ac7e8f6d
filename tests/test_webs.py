"""Points 3 to 5 and the interface of onecopy.webs."""

import unittest
from itertools import combinations

from onecopy.errors import InvalidPointer, NoPage
from onecopy.webs import Web
from tests.helpers import drawn, drawn_web, small_webs, within


def all_pointers(pages):
    return [(a, b) for a in range(pages) for b in range(pages) if a != b]


class WebCase(unittest.TestCase):
    def index_of_wrong(self, pages, pointers):
        with self.assertRaises(InvalidPointer) as caught:
            Web(pages, pointers)
        return caught.exception.index

    def page_outside(self, call, *arguments):
        with self.assertRaises(NoPage) as caught:
            call(*arguments)
        return caught.exception.page


class ExamplesTest(WebCase):
    def test_first(self):
        web = Web(3, [(1, 0), (0, 1), (1, 2)])
        self.assertEqual(
            [web.arrows(), web.degree(1), web.holders(0), web.inner([0, 1]), web.parts()],
            [[(0, 1), (1, 0), (1, 2)], 3, [1], 2, [[0, 1, 2]]],
        )

    def test_second(self):
        self.assertEqual(
            [Web.ring(3).is_forest(), Web.ring(3).is_settled(), Web.ring(2).is_forest()], [False, True, True])

    def test_third(self):
        self.assertEqual(self.index_of_wrong(2, [(0, 1), (1, 1)]), 1)


class PointersTest(WebCase):
    def test_one_page(self):
        web = Web(1, [])
        self.assertEqual([web.pages, web.arrows(), web.parts(), web.degree(0)], [1, [], [[0]], 0])
        self.assertEqual([web.holders(0), web.targets(0), web.inner([0]), web.inner([])], [[], [], 0, 0])
        self.assertTrue(web.is_forest() and web.is_settled())

    def test_many_pages_without_pointers(self):
        web = Web(200, [])
        self.assertEqual(web.parts(), [[page] for page in range(200)])
        self.assertEqual(web.arrows(), [])
        self.assertTrue(web.is_forest())

    def test_all_pointers(self):
        web = Web(200, list(reversed(all_pointers(200))))
        self.assertEqual(web.arrows(), all_pointers(200))
        self.assertEqual(web.holders(7), [page for page in range(200) if page != 7])
        self.assertEqual(web.targets(199), list(range(199)))
        self.assertEqual([web.degree(0), web.inner(list(range(200))), web.inner([3, 5])], [398, 39800, 2])
        self.assertEqual(web.parts(), [list(range(200))])
        self.assertFalse(web.is_forest() or web.is_settled())

    def test_both_directions_are_two_pointers(self):
        web = Web(2, [(1, 0), (0, 1)])
        self.assertEqual(web.arrows(), [(0, 1), (1, 0)])
        self.assertEqual([web.degree(0), web.degree(1), web.inner([0, 1])], [2, 2, 2])
        self.assertEqual([web.holders(0), web.targets(0)], [[1], [1]])

    def test_holders_and_targets(self):
        web = Web(5, [(4, 1), (0, 1), (1, 3), (1, 0), (2, 1)])
        self.assertEqual(web.holders(1), [0, 2, 4])
        self.assertEqual(web.targets(1), [0, 3])
        self.assertEqual([web.degree(page) for page in range(5)], [2, 5, 1, 1, 1])

    def test_wrong_ends(self):
        for wrong in [(0, 3), (3, 0), (-1, 0), (0, -1), (-2, -3), (0, 200), (1, 1), (-1, -1), (5, 5)]:
            self.assertEqual(self.index_of_wrong(3, [wrong]), 0, wrong)
            self.assertEqual(self.index_of_wrong(3, [(0, 1), (1, 0), wrong]), 2, wrong)

    def test_copy_of_an_earlier_pointer(self):
        self.assertEqual(self.index_of_wrong(3, [(0, 1), (1, 2), (0, 1)]), 2)
        self.assertEqual(self.index_of_wrong(3, [(0, 1), (0, 1), (0, 1)]), 1)
        self.assertEqual(Web(3, [(0, 1), (1, 0)]).arrows(), [(0, 1), (1, 0)])

    def test_first_of_two_wrong_pointers(self):
        wrongs = [(0, 4), (-1, 2), (2, 2), (0, 1)]
        for first in wrongs:
            for second in wrongs:
                self.assertEqual(self.index_of_wrong(4, [(0, 1), (1, 2), first, (2, 3), second]), 2)

    def test_one_page_has_no_pointer(self):
        self.assertEqual(self.index_of_wrong(1, [(0, 0)]), 0)
        self.assertEqual(self.index_of_wrong(1, [(0, 1)]), 0)


class ComparisonTest(WebCase):
    def test_order_of_the_pointers(self):
        draw = drawn(1)
        pointers = drawn_web(draw, 9, 30).arrows()
        web = Web(9, pointers)
        for _ in range(5):
            draw.shuffle(pointers)
            other = Web(9, pointers)
            self.assertTrue(web == other)
            self.assertFalse(web != other)
            self.assertEqual([web.arrows(), web.holders(4)], [other.arrows(), other.holders(4)])

    def test_unequal(self):
        self.assertFalse(Web(3, [(0, 1)]) == Web(3, [(1, 0)]))
        self.assertFalse(Web(3, [(0, 1)]) == Web(4, [(0, 1)]))
        self.assertFalse(Web(3, [(0, 1)]) == Web(3, [(0, 1), (1, 2)]))
        self.assertTrue(Web(3, [(0, 1)]) != Web(3, []))

    def test_beside_others(self):
        web = Web(2, [(0, 1)])
        for other in [[(0, 1)], [], None, 2, "web", (2, [(0, 1)])]:
            self.assertIs(web == other, False)
            self.assertIs(other == web, False)
            self.assertIs(web != other, True)

    def test_contains(self):
        web = Web(3, [(0, 1), (2, 1)])
        for pointer in all_pointers(3):
            self.assertIs(pointer in web, pointer in [(0, 1), (2, 1)])
        for pointer in [(0, 0), (0, 3), (3, 0), (-1, 0), (0, -2), (-1, -1), (400, 1)]:
            self.assertIs(pointer in web, False)


class LotsTest(WebCase):
    def test_inner(self):
        for web in small_webs():
            pages = list(range(web.pages))
            for size in range(web.pages + 1):
                for lot in combinations(pages, size):
                    self.assertEqual(web.inner(list(lot)), within(web, lot))

    def test_order_and_duplicates(self):
        web = Web(4, [(0, 1), (1, 0), (1, 2), (3, 1)])
        self.assertEqual(web.inner([2, 1, 0, 1, 2, 0]), 3)
        self.assertEqual(web.inner([1, 1]), 0)
        self.assertEqual(web.inner([]), 0)

    def test_no_page(self):
        web = Web(3, [(0, 1)])
        for page in [3, 4, 200, -1, -3]:
            for call in [web.holders, web.targets, web.degree]:
                self.assertEqual(self.page_outside(call, page), page)
            self.assertEqual(self.page_outside(web.inner, [0, page, 1, 77, -9]), page)

    def test_first_page_of_the_list_outside(self):
        web = Web(3, [(0, 1)])
        self.assertEqual(self.page_outside(web.inner, [2, 9, 0, 5, -1]), 9)
        self.assertEqual(self.page_outside(web.inner, [-1, 9]), -1)
        self.assertEqual(self.page_outside(web.inner, [1, 1, 3, 3]), 3)


class PartsTest(WebCase):
    def test_parts(self):
        web = Web(8, [(7, 1), (1, 7), (5, 3), (3, 0), (2, 6)])
        self.assertEqual(web.parts(), [[0, 3, 5], [1, 7], [2, 6], [4]])

    def test_ties_of_one_and_of_both_directions_make_the_same_parts(self):
        for pages in [1, 2, 5, 200]:
            self.assertEqual(Web.path(pages).parts(), Web.path(pages, two_way=True).parts())
            self.assertEqual(Web.path(pages).parts(), [list(range(pages))])

    def test_parts_of_drawn_webs(self):
        draw = drawn(2)
        for _ in range(40):
            web = drawn_web(draw, 12, draw.randint(0, 14))
            parts = web.parts()
            self.assertEqual(sorted(page for part in parts for page in part), list(range(12)))
            self.assertEqual(parts, sorted(sorted(part) for part in parts))
            part_of = {page: at for at, part in enumerate(parts) for page in part}
            for holder, target in web.arrows():
                self.assertEqual(part_of[holder], part_of[target])
            for part in parts:
                reached = {part[0]}
                for _ in part:
                    reached |= {page for arrow in web.arrows() if reached & set(arrow) for page in arrow}
                self.assertEqual(sorted(reached), part)


class RingsTest(WebCase):
    def test_forests(self):
        self.assertTrue(Web.path(1).is_forest())
        self.assertTrue(Web.path(200).is_forest())
        self.assertTrue(Web.path(200, two_way=True).is_forest())
        self.assertTrue(Web.ring(2).is_forest())
        self.assertTrue(Web(6, [(0, 1), (2, 1), (1, 2), (5, 4)]).is_forest())
        self.assertFalse(Web.ring(3).is_forest())
        self.assertFalse(Web.ring(200).is_forest())
        self.assertFalse(Web(3, [(0, 1), (0, 2), (1, 2)]).is_forest())
        self.assertFalse(Web(7, [(0, 1), (4, 5), (5, 6), (6, 4)]).is_forest())

    def test_forest_means_settled(self):
        for web in [Web.path(5, two_way=True), Web.ring(2), Web(4, []), Web.of_parents([None, 0, 0])]:
            self.assertTrue(web.is_forest() and web.is_settled())

    def test_one_way_rings(self):
        for pages in [3, 4, 5, 200]:
            ring = Web.ring(pages)
            self.assertTrue(ring.is_settled() and not ring.is_forest())
            backwards = Web(pages, [(target, holder) for holder, target in ring.arrows()])
            self.assertTrue(backwards.is_settled())

    def test_one_pointer_turned(self):
        for turned in range(5):
            pointers = Web.ring(5).arrows()
            holder, target = pointers[turned]
            pointers[turned] = (target, holder)
            web = Web(5, pointers)
            self.assertFalse(web.is_settled() or web.is_forest())

    def test_ring_with_more_pointers(self):
        ring = Web.ring(4).arrows()
        self.assertFalse(Web(4, ring + [(1, 0)]).is_settled())
        self.assertFalse(Web(4, ring + [(0, 2)]).is_settled())
        self.assertFalse(Web(5, ring + [(0, 4)]).is_settled())
        self.assertFalse(Web(5, ring + [(4, 0)]).is_settled())
        self.assertFalse(Web.ring(3) == Web(3, all_pointers(3)) or Web(3, all_pointers(3)).is_settled())

    def test_ring_beside_other_parts(self):
        web = Web(9, [(8, 2), (2, 5), (5, 8), (0, 1), (1, 0), (1, 3), (7, 6)])
        self.assertTrue(web.is_settled() and not web.is_forest())
        two_rings = Web(6, [(0, 2), (2, 4), (4, 0), (5, 3), (3, 1), (1, 5)])
        self.assertTrue(two_rings.is_settled())
        spoiled = Web(6, [(0, 2), (2, 4), (4, 0), (5, 3), (3, 1), (5, 1)])
        self.assertFalse(spoiled.is_settled())

    def test_two_way_ring_is_not_settled(self):
        pointers = Web.ring(4).arrows()
        web = Web(4, pointers + [(target, holder) for holder, target in pointers])
        self.assertFalse(web.is_settled() or web.is_forest())


class MadeWebsTest(WebCase):
    def test_path(self):
        self.assertEqual([Web.path(1).pages, Web.path(1).arrows()], [1, []])
        self.assertEqual(Web.path(1, two_way=True).arrows(), [])
        self.assertEqual(Web.path(4).arrows(), [(0, 1), (1, 2), (2, 3)])
        self.assertEqual(Web.path(4, two_way=False).arrows(), [(0, 1), (1, 2), (2, 3)])
        self.assertEqual(Web.path(3, two_way=True).arrows(), [(0, 1), (1, 0), (1, 2), (2, 1)])
        with self.assertRaises(TypeError):
            Web.path(3, True)

    def test_ring(self):
        self.assertEqual(Web.ring(2).arrows(), [(0, 1), (1, 0)])
        self.assertEqual(Web.ring(4).arrows(), [(0, 1), (1, 2), (2, 3), (3, 0)])
        self.assertEqual(Web.ring(200).pages, 200)

    def test_of_parents(self):
        web = Web.of_parents([None, 0, 3, None, 3])
        self.assertEqual([web.pages, web.arrows()], [5, [(0, 1), (3, 2), (3, 4)]])
        self.assertEqual(Web.of_parents([1, None]).arrows(), [(1, 0)])
        self.assertEqual([Web.of_parents([None]).pages, Web.of_parents([None] * 200).arrows()], [1, []])

    def test_of_parents_with_rings(self):
        self.assertTrue(Web.of_parents([2, 0, 1]) == Web.ring(3))
        self.assertEqual(Web.of_parents([1, 0, None]).arrows(), [(0, 1), (1, 0)])
        self.assertFalse(Web.of_parents([3, 0, 1, 2, 0]).is_settled())

    def test_of_parents_wrong(self):
        rows = [([0], 0), ([None, 1], 1), ([None, 2], 1), ([None, 0, -1], 2), ([None, -2, 2], 1),
                ([5, 5, 1], 0), ([None, None, 0, 3, 9], 3), ([1, 0, 200], 2)]
        for parents, wrong in rows:
            with self.assertRaises(InvalidPointer) as caught:
                Web.of_parents(parents)
            self.assertEqual(caught.exception.index, wrong, parents)


class CopiesTest(WebCase):
    def test_lists_that_were_handed_in(self):
        pointers = [(0, 1), (1, 2)]
        web = Web(3, pointers)
        pointers.append((2, 0))
        pointers[0] = (1, 0)
        self.assertEqual(web.arrows(), [(0, 1), (1, 2)])
        parents = [None, 0]
        other = Web.of_parents(parents)
        parents[1] = None
        self.assertEqual([parents, other.arrows()], [[None, None], [(0, 1)]])
        lot = [2, 1, 1]
        web.inner(lot)
        self.assertEqual(lot, [2, 1, 1])

    def test_lists_that_were_returned(self):
        web = Web(4, [(0, 1), (1, 2)])

        def told():
            return [web.arrows(), web.holders(1), web.targets(1), web.parts()]

        before = told()
        for found in told():
            found.clear()
        for part in web.parts():
            part.append(9)
        self.assertEqual(told(), before)
        self.assertTrue((0, 1) in web and web == Web(4, [(0, 1), (1, 2)]))
        self.assertEqual([web.degree(1), web.inner([0, 1, 2])], [2, 2])


if __name__ == "__main__":
    unittest.main()
