"""Promises [10] and [11]: webs, strips and what is heard in them."""

import itertools
import unittest

import by_words
from by_words import NEAR, ODD, raised
from hearunlike.errors import InvalidItem, InvalidList, InvalidNumber, InvalidSpot
from hearunlike.webs import Web

TWOS = list(itertools.product((0, 1), (0, 1), (-1, 0, 1)))


class MakeWebs(unittest.TestCase):
    def test_places(self):
        for places in (1, 2):
            self.assertEqual(Web(places, []).places, places)
            self.assertIs(type(Web(places, []).places), int)

    def test_invalid_places(self):
        for places in ODD + [0, 3, -1, 10 ** 19, "1", [1], (1,), Web(1, [])]:
            raised(self, InvalidNumber, places, lambda: Web(places, []))

    def test_places_are_checked_ahead_of_hears(self):
        raised(self, InvalidNumber, True, lambda: Web(True, None))
        raised(self, InvalidNumber, 0, lambda: Web(0, [None]))

    def test_invalid_list(self):
        for hears in [None, True, 0, "", (), tuple(NEAR), {}, {(0, 0, 0): 1}, Web(1, [])]:
            raised(self, InvalidList, hears, lambda: Web(1, hears))

    def test_items_of_one_place(self):
        for d in range(-2, 3):
            self.assertEqual(Web(1, [(0, 0, d)]).hears(), [(0, 0, d)])
        for item in [(0, 0, 3), (0, 0, -3), (0, 1, 0), (1, 0, 0), (-1, 0, 0), (0, -1, 0), (0, 0, 10 ** 19)]:
            raised(self, InvalidItem, item, lambda: Web(1, [(0, 0, 0), item]))

    def test_items_of_two_places(self):
        for item in TWOS:
            self.assertEqual(Web(2, [item]).hears(), [item])
        for item in [(0, 0, 2), (1, 1, -2), (0, 2, 0), (2, 0, 0), (-1, 0, 0), (1, -1, 0)]:
            raised(self, InvalidItem, item, lambda: Web(2, [(0, 0, 0), item]))

    def test_items_that_are_no_tuples_of_numbers(self):
        items = ODD + [0, [0, 0, 0], (0, 0), (0, 0, 0, 0), (), (False, 0, 1), (0, False, 1), (0, 0, True),
                       (0, 0, None), (0, 0, "1"), ((0,), 0, 0), (0, [0], 0), Web(1, []), (0, 0, Web(1, []))]
        for item in items:
            for places in (1, 2):
                raised(self, InvalidItem, item, lambda: Web(places, [(0, 0, 0), item]))

    def test_first_item_that_does_not_fit(self):
        wrong = (0, 0, 5)
        raised(self, InvalidItem, wrong, lambda: Web(1, [(0, 0, 1), wrong, None, (0, 0, 1)]))
        again = tuple([0, 0, 1])
        raised(self, InvalidItem, again, lambda: Web(1, [(0, 0, 1), (0, 0, 0), again, (0, 0, 0), None]))

    def test_a_boolean_does_not_occur_as_a_number(self):
        item = (0, 0, True)
        raised(self, InvalidItem, item, lambda: Web(1, [item, (0, 0, 1)]))
        self.assertIs(type(Web(1, [(0, 0, 1)]).hears()[0][2]), int)

    def test_hears_in_order(self):
        self.assertEqual(Web(1, []).hears(), [])
        self.assertEqual(Web(1, list(reversed(NEAR))).hears(), NEAR)
        self.assertEqual(Web(2, list(reversed(TWOS))).hears(), TWOS)

    def test_reach(self):
        for ds, reach in [((), 1), ((0,), 1), ((1,), 1), ((-1,), 1), ((2,), 2), ((-2,), 2), ((0, -2, 1), 2)]:
            self.assertEqual(Web(1, [(0, 0, d) for d in ds]).reach, reach)
        self.assertEqual(Web(2, []).reach, 1)
        self.assertEqual(Web(2, TWOS).reach, 1)

    def test_by_name(self):
        self.assertEqual(Web(hears=[(0, 0, 2)], places=1), Web(1, [(0, 0, 2)]))

    def test_lists_changed_behind_the_call(self):
        handed = list(NEAR)
        web = Web(1, handed)
        handed.append((0, 0, 2))
        self.assertEqual((web.hears(), web.reach), (NEAR, 1))
        web.hears().clear()
        web.audible(3, (1, 0)).clear()
        self.assertEqual(web.hears(), NEAR)
        self.assertEqual(web.audible(3, (1, 0)), [(0, 0), (1, 0), (2, 0)])
        self.assertIsNot(web.hears(), web.hears())

    def test_handed_list_stays(self):
        handed = [(0, 0, 2), (0, 0, -1)]
        Web(1, handed)
        self.assertEqual(handed, [(0, 0, 2), (0, 0, -1)])


class EqualWebs(unittest.TestCase):
    def test_equal(self):
        self.assertTrue(Web(1, NEAR) == Web(1, list(reversed(NEAR))))
        self.assertFalse(Web(1, NEAR) != Web(1, NEAR))

    def test_unequal(self):
        self.assertFalse(Web(1, NEAR) == Web(2, NEAR))
        self.assertFalse(Web(1, []) == Web(2, []))
        self.assertFalse(Web(1, NEAR) == Web(1, NEAR[:2]))
        self.assertTrue(Web(1, NEAR) != Web(1, [(0, 0, -2)] + NEAR[1:]))

    def test_equal_to_no_other_object(self):
        web = Web(1, NEAR)
        for other in ODD + [1, NEAR, (1, NEAR), InvalidNumber(1)]:
            self.assertIs(web == other, False)
            self.assertIs(web != other, True)


class Audible(unittest.TestCase):
    def test_by_words(self):
        for web in by_words.sample_webs():
            for n in range(1, 8):
                for ring in (False, True):
                    for spot in by_words.spots(web, n):
                        wanted = [x for x in by_words.spots(web, n) if by_words.leads(web, n, spot, x, ring)]
                        self.assertEqual(web.audible(n, spot, ring=ring), wanted)

    def test_row(self):
        web = Web(1, [(0, 0, -1), (0, 0, 2)])
        self.assertEqual(web.audible(5, (2, 0)), [(1, 0), (4, 0)])
        self.assertEqual(web.audible(5, (0, 0)), [(2, 0)])
        self.assertEqual(web.audible(5, (4, 0)), [(3, 0)])
        self.assertEqual(web.audible(1, (0, 0)), [])

    def test_ring(self):
        web = Web(1, [(0, 0, -1), (0, 0, 2)])
        self.assertEqual(web.audible(5, (0, 0), ring=True), [(2, 0), (4, 0)])
        self.assertEqual(web.audible(5, (4, 0), ring=True), [(1, 0), (3, 0)])
        two = Web(2, [(0, 1, 1), (1, 0, -1), (1, 1, 0)])
        self.assertEqual(two.audible(3, (2, 0), ring=True), [(0, 1)])
        self.assertEqual(two.audible(3, (0, 1), ring=True), [(0, 1), (2, 0)])

    def test_short_ring_tells_each_spot_once(self):
        web = Web(1, [(0, 0, d) for d in range(-2, 3)])
        self.assertEqual(web.audible(1, (0, 0), ring=True), [(0, 0)])
        self.assertEqual(web.audible(2, (1, 0), ring=True), [(0, 0), (1, 0)])
        self.assertEqual(web.audible(4, (3, 0), ring=True), [(0, 0), (1, 0), (2, 0), (3, 0)])
        self.assertEqual(Web(1, [(0, 0, 2)]).audible(1, (0, 0), ring=True), [(0, 0)])
        self.assertEqual(Web(1, [(0, 0, 2)]).audible(2, (1, 0), ring=True), [(1, 0)])

    def test_twenty_digits(self):
        web = Web(1, [(0, 0, -2), (0, 0, 0), (0, 0, 1)])
        n = 10 ** 20 - 1
        self.assertEqual(web.audible(n, (n - 1, 0)), [(n - 3, 0), (n - 1, 0)])
        self.assertEqual(web.audible(n, (n - 1, 0), ring=True), [(0, 0), (n - 3, 0), (n - 1, 0)])
        self.assertEqual(web.audible(n, (0, 0), ring=True), [(0, 0), (1, 0), (n - 2, 0)])
        raised(self, InvalidSpot, spot := (n, 0), lambda: web.audible(n, spot, ring=True))

    def test_invalid_count(self):
        for n in ODD + [0, -1, "3", [3], (3,), Web(1, [])]:
            raised(self, InvalidNumber, n, lambda: Web(1, NEAR).audible(n, (0, 0)))

    def test_invalid_spot(self):
        wrong = ODD + [0, (), (0,), (0, 0, 0), [0, 0], (3, 0), (-1, 0), (0, 2), (0, -1), (True, 0), (0, False),
                       (0, True), (None, 0), ("0", 0), ((0,), 0), (0, [0]), Web(1, []), (Web(1, []), 0)]
        for spot in wrong:
            for ring in (False, True):
                raised(self, InvalidSpot, spot, lambda: Web(2, TWOS).audible(3, spot, ring=ring))
        raised(self, InvalidSpot, spot := (0, 1), lambda: Web(1, NEAR).audible(3, spot))

    def test_invalid_ring(self):
        for ring in (None, 0, 1, "True", [], (), {}, [True], Web(1, [])):
            raised(self, InvalidNumber, ring, lambda: Web(1, NEAR).audible(3, (0, 0), ring=ring))

    def test_order_of_errors(self):
        web = Web(1, NEAR)
        raised(self, InvalidNumber, 0, lambda: web.audible(0, None, ring=None))
        raised(self, InvalidSpot, None, lambda: web.audible(1, None, ring=0))
        raised(self, InvalidNumber, 1, lambda: web.audible(1, (0, 0), ring=1))


if __name__ == "__main__":
    unittest.main()
