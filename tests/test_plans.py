"""Promises [15] and [16]: plans, their hearers and their faults."""

import unittest

import by_words
from by_words import ALL_NEEDS, NEAR, ODD, raised
from hearunlike.errors import InvalidNeeds, InvalidNumber, InvalidPlan, InvalidSpot, InvalidWeb
from hearunlike.plans import fault, hearers, is_good, is_plan
from hearunlike.webs import Web

ONE = Web(1, NEAR)
TWO = Web(2, [(0, 0, 0), (0, 1, 1), (1, 0, -1), (1, 1, 0)])
NO_WEBS = ODD + [1, NEAR, (1, NEAR), InvalidWeb()]
NO_RINGS = [None, 0, 1, "True", [], (), {}, [True], ONE]
NO_PLANS = [None, True, False, 0, 1, "", "o.", (), ([0],), {}, {0: []}, [], [None], [0], [True], ["0"], [()], [(0,)],
            [[0], (0,)], [{}], [{0: 1}], [[0], None], [[-1]], [[2]], [[10 ** 19]], [[0, 0]], [[1, 1]], [[1, 0]],
            [[0, 1, 1]], [[0, 1, 0]], [[True]], [[False]], [[0, True]], [[False, 1]], [[None]], [["0"]], [[[0]]],
            [[(0,)]], [[0], [0], [0, 0]], ONE, [ONE], [[ONE]]]
NO_NEEDS = ODD + [0, 1, (), (1,), (1, 1, 1), [1, 1], (0, 0), (4, 0), (-1, 0), (1, -1), (1, 3), (2, 5), (3, 7),
                  (True, 1), (1, True), (1, False), (None, 0), (1, None), ("1", 1), (1, "1"), ((1,), 1), (1, [1]), ONE]


class IsPlan(unittest.TestCase):
    def test_all_short_plans(self):
        for web in (ONE, TWO):
            for n in range(1, 4):
                for plan in by_words.all_plans(web, n):
                    self.assertIs(is_plan(web, plan), True)

    def test_no_plans(self):
        for value in NO_PLANS:
            for web in (ONE, TWO):
                self.assertIs(is_plan(web, value), False, value)

    def test_place_1_takes_two_places(self):
        for value in ([[1]], [[0], [1]], [[0, 1]]):
            self.assertIs(is_plan(ONE, value), False)
            self.assertIs(is_plan(TWO, value), True)

    def test_one_list_for_many_pieces(self):
        self.assertIs(is_plan(ONE, [[0]] * 3), True)

    def test_invalid_web(self):
        for web in NO_WEBS:
            raised(self, InvalidWeb, web, lambda: is_plan(web, [[0]]))
            raised(self, InvalidWeb, web, lambda: is_plan(web, None))


class Hearers(unittest.TestCase):
    def test_by_words(self):
        for web, plan, ring in by_words.sample_cases(6, 4):
            for spot in by_words.spots(web, len(plan)):
                self.assertEqual(hearers(web, plan, spot, ring=ring), by_words.hearers(web, plan, spot, ring))

    def test_only_those_who_sit_there(self):
        self.assertEqual(hearers(ONE, [[0], [], [0], [0]], (1, 0)), [(0, 0), (2, 0)])
        self.assertEqual(hearers(ONE, [[0], [], [0], [0]], (0, 0)), [(0, 0)])
        self.assertEqual(hearers(ONE, [[0], [], [0], [0]], (0, 0), ring=True), [(0, 0), (3, 0)])
        self.assertEqual(hearers(ONE, [[], [], []], (1, 0)), [])

    def test_way_of_hearing(self):
        ahead = Web(1, [(0, 0, 1)])
        self.assertEqual(hearers(ahead, [[0], [0], [0]], (1, 0)), [(0, 0)])
        self.assertEqual(hearers(ahead, [[0], [0], [0]], (0, 0)), [])
        self.assertEqual(hearers(ahead, [[0], [0], [0]], (0, 0), ring=True), [(2, 0)])
        self.assertEqual(hearers(Web(2, [(0, 1, 0)]), [[0, 1]], (0, 1)), [(0, 0)])
        self.assertEqual(hearers(Web(2, [(0, 1, 0)]), [[0, 1]], (0, 0)), [])

    def test_ring_of_one_piece(self):
        self.assertEqual(hearers(ONE, [[0]], (0, 0), ring=True), [(0, 0)])
        self.assertEqual(hearers(Web(1, [(0, 0, 2)]), [[0]], (0, 0), ring=True), [(0, 0)])
        self.assertEqual(hearers(Web(1, [(0, 0, 2)]), [[0]], (0, 0)), [])

    def test_wrong_inputs(self):
        for plan in NO_PLANS:
            raised(self, InvalidPlan, plan, lambda: hearers(ONE, plan, (0, 0)))
        for spot in ODD + [0, (2, 0), (-1, 0), (0, 1), (0, -1), (0,), (0, 0, 0), [0, 0], (True, 0), (1, False), ONE]:
            for ring in (False, True):
                raised(self, InvalidSpot, spot, lambda: hearers(ONE, [[0], []], spot, ring=ring))
        for ring in NO_RINGS:
            for plan in ([[0]], [[]]):
                raised(self, InvalidNumber, ring, lambda: hearers(ONE, plan, (0, 0), ring=ring))

    def test_order_of_errors(self):
        raised(self, InvalidWeb, None, lambda: hearers(None, (), None, ring=None))
        raised(self, InvalidPlan, (), lambda: hearers(ONE, (), None, ring=None))
        raised(self, InvalidSpot, None, lambda: hearers(ONE, [[0]], None, ring=0))


class Fault(unittest.TestCase):
    def test_by_words(self):
        for web, plan, ring in by_words.sample_cases(7, 4):
            for needs in ALL_NEEDS:
                wanted = by_words.fault(web, plan, needs, ring)
                self.assertEqual(fault(web, plan, needs, ring=ring), wanted)
                self.assertIs(is_good(web, plan, needs, ring=ring), wanted is None)

    def test_all_plans_of_a_web(self):
        for n in range(1, 8):
            for plan in by_words.all_plans(ONE, n):
                for ring in (False, True):
                    self.assertEqual(fault(ONE, plan, (1, 1), ring=ring), by_words.fault(ONE, plan, (1, 1), ring))

    def test_long_strips(self):
        web = Web(1, [(0, 0, d) for d in (-2, -1, 0, 2)])
        plan = [[0]] * 30
        for gone in range(30):
            holed = plan[:gone] + [[]] + plan[gone + 1:]
            for ring in (False, True):
                for needs in ((1, 1), (2, 3), (3, 1), (3, 4)):
                    wanted = by_words.fault(web, holed, needs, ring)
                    self.assertEqual(fault(web, holed, needs, ring=ring), wanted)

    def test_few_comes_ahead_of_alike(self):
        self.assertEqual(fault(ONE, [[], [0], [], []], (1, 1)), ("few", (3, 0)))
        self.assertEqual(fault(ONE, [[], [0], []], (1, 1)), ("alike", (0, 0), (1, 0)))

    def test_alike_across_the_end_of_a_ring(self):
        self.assertEqual(fault(ONE, [[0], [], [0], [0], [], [0]], (1, 1), ring=True), ("alike", (0, 0), (5, 0)))
        self.assertEqual(fault(ONE, [[0], [], [0], [0], [], [0]], (1, 1)), ("alike", (2, 0), (3, 0)))

    def test_two_spots_of_one_piece(self):
        web = Web(2, [(0, 0, 0), (0, 1, 0), (1, 1, 0)])
        self.assertEqual(fault(web, [[0]], (1, 1)), ("alike", (0, 0), (0, 1)))
        self.assertIsNone(fault(web, [[0, 1]], (1, 1)))
        self.assertEqual(fault(web, [[0, 1]], (1, 2)), ("alike", (0, 0), (0, 1)))

    def test_one_spot_is_alike_to_none(self):
        self.assertIsNone(fault(ONE, [[0]], (1, 2)))
        self.assertIs(is_good(ONE, [[0]], (1, 2), ring=True), True)

    def test_without_any_need_to_tell_apart(self):
        self.assertIsNone(fault(ONE, [[], [0], []], (1, 0)))

    def test_wrong_inputs(self):
        for call in (fault, is_good):
            for web in NO_WEBS:
                raised(self, InvalidWeb, web, lambda: call(web, [[0]], (1, 1)))
            for plan in NO_PLANS:
                raised(self, InvalidPlan, plan, lambda: call(ONE, plan, (1, 1)))
            for needs in NO_NEEDS:
                raised(self, InvalidNeeds, needs, lambda: call(ONE, [[0]], needs))
            for ring in NO_RINGS:
                for plan in ([[0]], [[]]):
                    raised(self, InvalidNumber, ring, lambda: call(ONE, plan, (1, 1), ring=ring))

    def test_order_of_errors(self):
        for call in (fault, is_good):
            raised(self, InvalidWeb, None, lambda: call(None, [], None, ring=None))
            raised(self, InvalidPlan, (), lambda: call(ONE, (), None, ring=None))
            raised(self, InvalidNeeds, None, lambda: call(ONE, [[0]], None, ring=0))

    def test_example(self):
        plan = [[0], [0], [0], [], [0], [0]]
        self.assertEqual(hearers(ONE, plan, (3, 0)), [(2, 0), (4, 0)])
        self.assertEqual(fault(ONE, plan, (1, 1)), ("alike", (4, 0), (5, 0)))
        self.assertIsNone(fault(ONE, plan, (1, 1), ring=True))


if __name__ == "__main__":
    unittest.main()
