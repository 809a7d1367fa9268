"""Promises [17] and [18]: where noises were, and which watchers may fall out."""

import itertools
import random
import unittest

import by_words
from by_words import ALL_NEEDS, raised
from hearunlike.errors import InvalidHeard, InvalidNeeds, InvalidNumber, InvalidPlan, InvalidWeb
from hearunlike.plans import idle, two, vital, where
from hearunlike.webs import Web
from test_plans import NO_NEEDS, NO_PLANS, NO_RINGS, NO_WEBS, ODD, ONE, TWO

PLAN = [[0], [0], [0], [], [0], [0]]
NO_HEARD = ODD + [0, (), ((0, 0),), [None], [0], [[0, 0]], [(0,)], [(0, 0, 0)], [(3, 0)], [(6, 0)], [(-1, 0)],
                  [(0, 1)], [(True, 0)], [(1, False)], [(False, 0), (1, 0)], [(0, 0), (0, 0)], [(1, 0), (0, 0)],
                  [(0, 0), (2, 0), (1, 0)], [(0, 0), None], [("0", 0)], [((0,), 0)], [([0], 0)], ONE, [ONE]]


def some_heard(web, plan, ring, chance):
    """Lists that may be heard: of one spot, of two, of one with a lie, of nobody and of everybody."""
    watchers = by_words.watchers(plan)
    spots = by_words.spots(web, len(plan))
    true = [by_words.hearers(web, plan, spot, ring) for spot in spots]
    found = [[], watchers] + true
    found += [sorted(set(one) | set(other)) for one, other in itertools.islice(itertools.combinations(true, 2), 9)]
    found += [[w for w in watchers if chance.random() < 0.5] for _ in range(3)]
    return found


class Where(unittest.TestCase):
    def test_by_words(self):
        chance = random.Random(5)
        for web, plan, ring in by_words.sample_cases(6, 2):
            for heard in some_heard(web, plan, ring, chance):
                for lies in range(4):
                    wanted = by_words.where(web, plan, heard, lies, ring)
                    self.assertEqual(where(web, plan, heard, lies=lies, ring=ring), wanted)

    def test_without_lies_by_default(self):
        self.assertEqual(where(ONE, PLAN, [(2, 0), (4, 0)]), [(3, 0)])
        self.assertEqual(where(ONE, PLAN, [(4, 0), (5, 0)]), [(4, 0), (5, 0)])
        self.assertEqual(where(ONE, PLAN, [(0, 0), (5, 0)], ring=True), [])
        self.assertEqual(where(ONE, PLAN, [(4, 0)]), [])

    def test_lies(self):
        self.assertEqual(where(ONE, PLAN, [(4, 0)], lies=1), [(3, 0), (4, 0), (5, 0)])
        self.assertEqual(where(ONE, [[0], [0], []], [], lies=1), [(2, 0)])
        self.assertEqual(where(ONE, [[0], [0], []], [], lies=2), [(0, 0), (1, 0), (2, 0)])

    def test_nobody_heard(self):
        self.assertEqual(where(ONE, [[], [], [], [0]], []), [(0, 0), (1, 0)])

    def test_invalid_lies(self):
        for lies in [None, True, False, -1, 4, 10 ** 19, "1", [1], (1,), {}, ONE]:
            raised(self, InvalidNumber, lies, lambda: where(ONE, PLAN, [], lies=lies))

    def test_order_of_errors(self):
        raised(self, InvalidWeb, None, lambda: where(None, None, None, lies=None, ring=None))
        raised(self, InvalidPlan, (), lambda: where(ONE, (), None, lies=None, ring=None))
        raised(self, InvalidHeard, (), lambda: where(ONE, PLAN, (), lies=None, ring=None))
        raised(self, InvalidNumber, -1, lambda: where(ONE, PLAN, [], lies=-1, ring=None))
        raised(self, InvalidNumber, 7, lambda: where(ONE, PLAN, [], lies=0, ring=7))


class Two(unittest.TestCase):
    def test_by_words(self):
        chance = random.Random(6)
        for web, plan, ring in by_words.sample_cases(6, 2):
            for heard in some_heard(web, plan, ring, chance):
                self.assertEqual(two(web, plan, heard, ring=ring), by_words.two(web, plan, heard, ring))

    def test_far_apart(self):
        plan = [[0]] * 12
        heard = [(0, 0), (1, 0), (7, 0), (8, 0), (9, 0)]
        self.assertEqual(two(ONE, plan, heard), [((0, 0), (8, 0))])
        self.assertEqual(two(ONE, plan, heard, ring=True), [])

    def test_within_one_another(self):
        self.assertEqual(two(ONE, [[0], [0], [0]], [(0, 0), (1, 0), (2, 0)]),
                         [((0, 0), (1, 0)), ((0, 0), (2, 0)), ((1, 0), (2, 0))])

    def test_nobody_heard(self):
        self.assertEqual(two(ONE, [[], [], [], [], [0]], []), [((0, 0), (1, 0)), ((0, 0), (2, 0)), ((1, 0), (2, 0))])
        self.assertEqual(two(ONE, [[]], []), [])

    def test_order_of_errors(self):
        raised(self, InvalidWeb, None, lambda: two(None, None, None, ring=None))
        raised(self, InvalidPlan, (), lambda: two(ONE, (), None, ring=None))
        raised(self, InvalidHeard, (), lambda: two(ONE, PLAN, (), ring=None))


class WrongHeard(unittest.TestCase):
    def test_wrong_inputs(self):
        for call in (where, two):
            for web in NO_WEBS:
                raised(self, InvalidWeb, web, lambda: call(web, [[0]], []))
            for plan in NO_PLANS:
                raised(self, InvalidPlan, plan, lambda: call(ONE, plan, []))
            for heard in NO_HEARD:
                raised(self, InvalidHeard, heard, lambda: call(ONE, PLAN, heard))
            for ring in NO_RINGS:
                for plan in (PLAN, [[]]):
                    raised(self, InvalidNumber, ring, lambda: call(ONE, plan, [], ring=ring))

    def test_a_place_at_which_nobody_sits(self):
        for call in (where, two):
            raised(self, InvalidHeard, heard := [(0, 0), (0, 1)], lambda: call(TWO, [[0], [1]], heard))


class Idle(unittest.TestCase):
    def test_by_words(self):
        for web, plan, ring in by_words.sample_cases(5, 4):
            for needs in ALL_NEEDS:
                self.assertEqual(idle(web, plan, needs, ring=ring), by_words.idle(web, plan, needs, ring))

    def test_all_plans_of_a_web(self):
        for n in range(1, 7):
            for plan in by_words.all_plans(ONE, n):
                for ring in (False, True):
                    for needs in ((1, 0), (1, 1), (1, 2), (2, 1)):
                        self.assertEqual(idle(ONE, plan, needs, ring=ring), by_words.idle(ONE, plan, needs, ring))

    def test_long_strips(self):
        for web, n in ((Web(1, [(0, 0, d) for d in range(-2, 3)]), 20), (TWO, 12)):
            for plan in by_words.some_plans(web, n, 3, random.Random(3)):
                for ring in (False, True):
                    for needs in ((1, 0), (1, 1), (1, 2), (2, 2)):
                        self.assertEqual(idle(web, plan, needs, ring=ring), by_words.idle(web, plan, needs, ring))

    def test_each_by_itself(self):
        self.assertEqual(idle(ONE, [[0], [0]], (1, 0)), [(0, 0), (1, 0)])
        self.assertEqual(idle(ONE, [[0], [0], [0], [0]], (1, 1)), [(0, 0), (3, 0)])

    def test_bad_plan(self):
        self.assertEqual(idle(ONE, [[], [0], []], (1, 1)), [])
        self.assertEqual(idle(ONE, PLAN, (1, 1)), [])

    def test_wrong_inputs(self):
        for web in NO_WEBS:
            raised(self, InvalidWeb, web, lambda: idle(web, [[0]], (1, 1)))
        for plan in NO_PLANS:
            raised(self, InvalidPlan, plan, lambda: idle(ONE, plan, (1, 1)))
        for needs in NO_NEEDS:
            raised(self, InvalidNeeds, needs, lambda: idle(ONE, [[0]], needs))
        for ring in NO_RINGS:
            for plan in ([[0]], [[]]):
                raised(self, InvalidNumber, ring, lambda: idle(ONE, plan, (1, 1), ring=ring))

    def test_order_of_errors(self):
        raised(self, InvalidWeb, None, lambda: idle(None, None, None, ring=None))
        raised(self, InvalidPlan, (), lambda: idle(ONE, (), None, ring=None))
        raised(self, InvalidNeeds, None, lambda: idle(ONE, [[0]], None, ring=0))


class Vital(unittest.TestCase):
    def test_by_words(self):
        for web in by_words.sample_webs():
            for n in range(1, 6 if web.places == 1 else 4):
                for ring in (False, True):
                    for needs in ((1, 0), (1, 1), (1, 2), (2, 2), (2, 3), (3, 2)):
                        self.assertEqual(vital(web, n, needs, ring=ring), by_words.vital(web, n, needs, ring))

    def test_lengths_of_a_web(self):
        for n in range(6, 10):
            for ring in (False, True):
                self.assertEqual(vital(ONE, n, (1, 1), ring=ring), by_words.vital(ONE, n, (1, 1), ring))

    def test_no_good_plan(self):
        self.assertIsNone(vital(ONE, 2, (1, 1)))
        self.assertIsNone(vital(Web(1, []), 1, (1, 0)))

    def test_none_is_vital(self):
        self.assertEqual(vital(ONE, 6, (1, 0), ring=True), [])

    def test_example(self):
        self.assertEqual(vital(ONE, 4, (1, 1)), [(1, 0), (2, 0)])

    def test_wrong_inputs(self):
        for web in NO_WEBS:
            raised(self, InvalidWeb, web, lambda: vital(web, 3, (1, 1)))
        for n in ODD + [0, -1, "3", [3], (3,), [[0]], ONE]:
            raised(self, InvalidNumber, n, lambda: vital(ONE, n, (1, 1)))
        for needs in NO_NEEDS:
            raised(self, InvalidNeeds, needs, lambda: vital(ONE, 3, needs))
        for ring in NO_RINGS:
            raised(self, InvalidNumber, ring, lambda: vital(ONE, 3, (1, 1), ring=ring))

    def test_order_of_errors(self):
        raised(self, InvalidWeb, None, lambda: vital(None, None, None, ring=None))
        raised(self, InvalidNumber, 0, lambda: vital(ONE, 0, None, ring=None))
        raised(self, InvalidNeeds, None, lambda: vital(ONE, 3, None, ring=0))

    def test_errors_beyond_the_limit(self):
        raised(self, InvalidNeeds, None, lambda: vital(ONE, 10 ** 19, None))
        raised(self, InvalidNumber, 2, lambda: vital(ONE, 10 ** 19, (1, 1), ring=2))


if __name__ == "__main__":
    unittest.main()
