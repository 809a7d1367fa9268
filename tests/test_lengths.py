"""Promises [45] and [46], with [1] to [3] for them: least prices for all lengths, and standings."""

import copy
import inspect
import itertools
import random
import unittest

import by_words
from by_words import ALL_NEEDS, NEAR, lists_in, raised, within_seconds
from hearunlike import lengths as module
from hearunlike.errors import InvalidNeeds, InvalidNumber, InvalidPrices, InvalidWeb
from hearunlike.lengths import is_rate_paper, lengths, rate, rate_paper, standings
from hearunlike.standings import least, least_plan
from hearunlike.webs import Web
from test_plans import NO_NEEDS, NO_RINGS, NO_WEBS, ONE
from test_standings import FULL, LATE, RICH, ROOK, SKEW, WEBS, WIDE, refused

# A web with a long period.
SLOW = Web(2, [(0, 0, -1), (0, 0, 0), (0, 1, 0), (0, 1, 1), (1, 0, -1), (1, 0, 0), (1, 0, 1), (1, 1, -1), (1, 1, 0),
               (1, 1, 1)])
# All webs of one place and a reach of 1.
SMALL = [Web(1, list(hears)) for many in range(4) for hears in itertools.combinations(NEAR, many)]
# Webs whose prices have a shorter period than the states with these prices: (tuples, needs, prices, period).
DIVIDED = [
    ([(0, 0, -1), (0, 0, 0), (0, 0, 1), (1, 0, -1), (1, 0, 0), (1, 1, -1), (1, 1, 0), (1, 1, 1)], (1, 1), [4, 8], 2),
    ([(0, 0, -1), (0, 0, 0), (0, 0, 1), (0, 1, -1), (0, 1, 0), (1, 0, -1), (1, 0, 0), (1, 0, 1), (1, 1, 0), (1, 1, 1)],
     (1, 1), [8, 8], 1),
    ([(0, 0, -1), (0, 0, 0), (0, 1, -1), (0, 1, 1), (1, 0, 1), (1, 1, 0)], (1, 1), [5, 3], 1),
    ([(0, 0, 0), (0, 0, 1), (0, 1, -1), (0, 1, 1), (1, 0, -1), (1, 1, -1), (1, 1, 1)], (1, 2), [8, 4], 1),
    ([(0, 0, -1), (0, 0, 1), (0, 1, 0), (1, 0, -1), (1, 0, 0), (1, 1, 1)], (1, 1), [3, 3], 1),
    ([(0, 0, 1), (0, 1, 0), (0, 1, 1), (1, 0, -1), (1, 0, 0), (1, 1, -1), (1, 1, 0), (1, 1, 1)], (1, 1), [4, 4], 1),
]
FEW_NEEDS = [(1, 0), (1, 1), (1, 2), (2, 1), (2, 2), (3, 1)]


def values_of(web, needs, prices, ring, n):
    return [least(web, needs, prices, k, ring=ring) for k in range(1, n + 1)]


class Interface(unittest.TestCase):
    wanted = {lengths: "(web, needs, prices, *, ring=False)", standings: "(web, needs)", rate: "(web, needs, prices)",
              rate_paper: "(web, needs, prices)", is_rate_paper: "(web, needs, prices, told, paper)"}

    def test_signatures(self):
        for call, signature in self.wanted.items():
            self.assertEqual(str(inspect.signature(call)), signature)

    def test_defined_where_they_are_listed(self):
        for call in self.wanted:
            self.assertEqual(call.__module__, "hearunlike.lengths")
            self.assertIs(vars(module)[call.__name__], call)

    def test_by_name(self):
        told, paper = rate(prices=[2], needs=(1, 1), web=ONE), rate_paper(prices=[2], needs=(1, 1), web=ONE)
        self.assertEqual((told, paper), (rate(ONE, (1, 1), [2]), rate_paper(ONE, (1, 1), [2])))
        self.assertIs(is_rate_paper(paper=paper, told=told, prices=[2], needs=(1, 1), web=ONE), True)
        self.assertEqual(standings(needs=(1, 1), web=ONE), standings(ONE, (1, 1)))
        self.assertEqual(lengths(ring=True, prices=[2], needs=(1, 1), web=ONE), ([2, None, None, 6, 6, 6, 10], 2, 2))
        with self.assertRaises(TypeError):
            lengths(ONE, (1, 1), [2], True)

    def test_example(self):
        near = Web(1, [(0, 0, -1), (0, 0, 0), (0, 0, 1)])
        self.assertEqual([lengths(near, (1, 1), [1]), rate(near, (1, 1), [1])], [([1, None, 2, 3], 2, 1), (1, 2)])


class Lengths(unittest.TestCase):
    def check(self, web, needs, prices, ring):
        """Check lengths against least for each length up to well beyond the head and two periods."""
        head, period, rise = found = lengths(web, needs, prices, ring=ring)
        values = values_of(web, needs, prices, ring, 4 * (len(head) + period))
        self.assertEqual(found, by_words.lengths(values), (web.hears(), needs, prices, ring))
        return found

    def test_rows(self):
        chance = random.Random(1)
        for k, web in enumerate(WEBS):
            for needs in ((1, 1), FEW_NEEDS[k % len(FEW_NEEDS)]):
                self.check(web, needs, [chance.randint(0, 9) for _ in range(web.places)], False)

    def test_periods_shorter_than_those_of_the_states(self):
        for hears, needs, prices, wanted in DIVIDED:
            self.assertEqual(self.check(Web(2, hears), needs, prices, False)[1], wanted)

    def test_rings(self):
        for web in SMALL:
            for needs in ALL_NEEDS[:5] + [(3, 0), (3, 3)]:
                for prices in ([0], [1], [9]):
                    self.check(web, needs, prices, True)

    def test_small_rows(self):
        for web in SMALL:
            for needs in ALL_NEEDS:
                self.check(web, needs, [3], False)

    def test_against_all_plans(self):
        for web, needs, most in ((ONE, (1, 1), 12), (ROOK, (1, 1), 12), (WIDE, (2, 1), 12), (RICH, (1, 1), 5)):
            prices = [3, 2][:web.places]
            for ring in (False, True)[:2 if web == ONE else 1]:
                head, period, rise = lengths(web, needs, prices, ring=ring)
                values = list(head)
                while len(values) < most:
                    values.append(None if values[-period] is None else values[-period] + rise)
                wanted = [by_words.cheapest(by_words.good_plans(web, n, needs, ring), prices)[0]
                          for n in range(1, most + 1)]
                self.assertEqual(values[:most], wanted)

    def test_by_words_tells_what_the_words_say(self):
        self.assertEqual(by_words.lengths([5, 4, 7, 5, 8, 6, 9, 7, 10, 8]), ([5, 4, 7], 2, 1))
        self.assertEqual(by_words.lengths([1, 1, 1, 1, 1, 1]), ([1], 1, 0))
        self.assertEqual(by_words.lengths([3, None, None, None, None, None]), ([3, None], 1, 0))
        self.assertEqual(by_words.lengths([None, None, None, None]), ([None], 1, 0))

    def test_known_answers(self):
        self.assertEqual(lengths(ONE, (1, 1), [1], ring=True), ([1, None, None, 3, 3, 3, 5], 2, 1))
        self.assertEqual(lengths(Web(1, [(0, 0, 0)]), (1, 1), [7]), ([7], 1, 7))
        self.assertEqual(lengths(Web(1, [(0, 0, 0)]), (1, 1), [0]), ([0], 1, 0))
        self.assertEqual(lengths(ROOK, (1, 1), [1]), by_words.lengths(values_of(ROOK, (1, 1), [1], False, 60)))

    def test_rise_if_all_beyond_is_none(self):
        self.assertEqual(lengths(Web(1, []), (1, 0), [5]), ([None], 1, 0))
        self.assertEqual(lengths(Web(2, []), (1, 0), [5, 1], ring=False), ([None], 1, 0))
        self.assertEqual(lengths(ONE, (3, 0), [5]), ([None], 1, 0))
        # A row of two pieces is good, no other one is.
        self.assertEqual(lengths(Web(1, [(0, 0, -1), (0, 0, 1)]), (1, 2), [5]), ([None, 10, None], 1, 0))
        # Good endless plans are there, but no good rows.
        ahead = Web(1, [(0, 0, -1)])
        self.assertEqual(rate(ahead, (1, 1), [5]), (5, 1))
        self.assertEqual(lengths(ahead, (1, 1), [5]), ([None], 1, 0))
        self.assertEqual(lengths(ahead, (1, 1), [5], ring=True), ([5], 1, 5))

    def test_head_of_finite_values_with_none_beyond(self):
        found = set()
        for web in WEBS + SMALL:
            for needs in FEW_NEEDS:
                head, period, rise = lengths(web, needs, [1, 1][:web.places])
                if head[-1] is None:
                    self.assertEqual((period, rise), (1, 0))
                    if len(head) > 1:
                        self.assertIsNotNone(head[-2])
                        found.add(len(head))
                    self.assertEqual(values_of(web, needs, [1, 1][:web.places], False, len(head) + 20)[len(head):],
                                     [None] * 20)
        self.assertGreater(len(found), 0)

    def test_long_heads_and_periods(self):
        for web, needs, prices, longest in ((LATE, (1, 1), [8, 9], 150), (SLOW, (2, 1), [7, 7], 26)):
            head, period, rise = lengths(web, needs, prices)
            self.assertGreater(len(head) + period, longest)
            values = list(head)
            while len(values) < len(head) + 2 * period:
                values.append(values[-period] + rise)
            for n in list(range(1, 61, 7)) + list(range(61, len(values) + 1, 13)) + [len(head), len(values)]:
                plan = least_plan(web, needs, prices, n)
                self.assertEqual(values[n - 1], None if plan is None else by_words.price(prices, plan))
            self.assertNotEqual(head[-1], head[-1 - period] + rise)
            tail = values[len(head):]
            for shorter in range(1, period):
                self.assertGreater(len({after - value for value, after in zip(tail, tail[shorter:])}), 1)

    def test_each_part_counts(self):
        for web, needs, prices in ((ONE, (1, 1), [1]), (ROOK, (1, 1), [2]), (RICH, (1, 1), [3, 5]),
                                   (SKEW, (1, 1), [1, 2])):
            head, period, rise = lengths(web, needs, prices)
            self.assertGreaterEqual(len(head), period)
            values = values_of(web, needs, prices, False, len(head) + 2 * period)
            self.assertEqual(values[:len(head)], head)
            for n in range(len(head), len(values)):
                self.assertTrue(by_words.follows(values[n], values[n - period], rise))
            if len(head) > period:
                self.assertFalse(by_words.follows(head[-1], head[-1 - period], rise))

    def test_other_rings_raise_no_error(self):
        for web in (ROOK, SKEW):
            head, period, rise = lengths(web, (1, 1), [1, 2][:web.places], ring=True)
            self.assertEqual(head[:16], values_of(web, (1, 1), [1, 2][:web.places], True, min(16, len(head))))

    def test_kinds_of_results(self):
        for ring in (False, True):
            found = lengths(ONE, (1, 1), [1], ring=ring)
            self.assertEqual([type(part) for part in found], [list, int, int])
            self.assertEqual({type(value) for value in found[0]}, {int, type(None)})
            self.assertIs(type(found), tuple)

    def test_errors(self):
        for call in (lengths, lambda *told, **more: lengths(*told, ring=True)):
            refused(self, call)
        for ring in NO_RINGS:
            raised(self, InvalidNumber, ring, lambda: lengths(ONE, (1, 1), [1], ring=ring))

    def test_order_of_errors(self):
        raised(self, InvalidWeb, None, lambda: lengths(None, None, None, ring=None))
        raised(self, InvalidNeeds, None, lambda: lengths(ONE, None, None, ring=None))
        raised(self, InvalidPrices, None, lambda: lengths(ONE, (1, 1), None, ring=None))
        raised(self, InvalidNumber, None, lambda: lengths(ONE, (1, 1), [1], ring=None))

    def test_new_lists(self):
        first, second = lengths(ONE, (1, 1), [1]), lengths(ONE, (1, 1), [1])
        self.assertIsNot(first[0], second[0])
        first[0].append("changed")
        self.assertEqual(lengths(ONE, (1, 1), [1]), second)

    def test_limits(self):
        for web in WEBS + [LATE]:
            for needs in ((1, 0), (1, 1), (2, 1), (3, 6)):
                within_seconds(self, lengths, web, needs, [8, 9][:web.places])
        for web in SMALL:
            within_seconds(self, lengths, web, (1, 1), [9], ring=True)


class Standings(unittest.TestCase):
    def test_by_words(self):
        kinds = set()
        for k, web in enumerate(WEBS + SMALL):
            for needs in ((1, 1), FEW_NEEDS[k % len(FEW_NEEDS)]):
                wanted = by_words.standings(web, needs)
                self.assertEqual(standings(web, needs), wanted, (web.hears(), needs))
                kinds.add((web.places, web.reach, bool(wanted)))
        self.assertEqual(len(kinds), 6)

    def test_all_needs(self):
        for web in (ONE, RICH, ROOK):
            for needs in ALL_NEEDS:
                self.assertEqual(standings(web, needs), by_words.standings(web, needs))

    def test_stand_in_good_endless_plans(self):
        # Each run of pieces in a ring that is good and long enough is a standing, and there are no others.
        for web, most in ((ONE, 11), (Web(1, [(0, 0, -1), (0, 0, 0)]), 11)):
            for needs in ((1, 1), (2, 1), (1, 0)):
                seen = []
                for n in range(5, most):
                    for plan in by_words.good_plans(web, n, needs, True):
                        seen += [(plan + plan)[k:k + 4] for k in range(n)]
                self.assertEqual(standings(web, needs), sorted(by_words.unlike(seen)))

    def test_no_good_endless_plan(self):
        for web, needs in ((Web(1, []), (1, 0)), (FULL, (1, 1)), (ONE, (1, 2)), (ONE, (2, 4)), (Web(2, []), (2, 0))):
            self.assertEqual(by_words.standings(web, needs), standings(web, needs))
        self.assertEqual(standings(FULL, (1, 1)), [])
        self.assertEqual(standings(Web(1, []), (1, 0)), [])

    def test_known_answers(self):
        self.assertEqual(standings(Web(1, [(0, 0, 0)]), (1, 1)), [[[0], [0], [0], [0]]])
        self.assertEqual(len(standings(FULL, (1, 0))), 249)
        self.assertEqual(standings(ONE, (3, 0)), [[[0], [0], [0], [0]]])

    def test_errors(self):
        for web in NO_WEBS:
            raised(self, InvalidWeb, web, lambda: standings(web, (1, 1)))
        for needs in NO_NEEDS:
            raised(self, InvalidNeeds, needs, lambda: standings(ONE, needs))
        raised(self, InvalidWeb, None, lambda: standings(None, None))

    def test_new_lists(self):
        first, second = standings(RICH, (1, 1)), standings(RICH, (1, 1))
        found = lists_in(first) + lists_in(second)
        self.assertEqual(len({id(x) for x in found}), len(found))
        held = copy.deepcopy(second)
        for x in lists_in(first):
            x.append("changed")
        self.assertEqual(second, held)
        self.assertEqual(standings(RICH, (1, 1)), held)

    def test_limits(self):
        for web in WEBS:
            for needs in ((1, 0), (1, 1), (3, 6)):
                within_seconds(self, standings, web, needs)


if __name__ == "__main__":
    unittest.main()
