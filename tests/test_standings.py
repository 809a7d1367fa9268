"""Promises [40], [41] and [42], with [1] to [3] for them: prices, and the cheapest plans."""

import copy
import inspect
import itertools
import random
import unittest

import by_words
from by_words import ALL_NEEDS, lists_in, raised, within_seconds
from hearunlike import standings
from hearunlike.errors import InvalidNeeds, InvalidNumber, InvalidPlan, InvalidPrices, InvalidWeb
from hearunlike.lengths import lengths
from hearunlike.standings import how_many, least, least_plan, plan_at, price
from hearunlike.webs import Web
from test_plans import NO_NEEDS, NO_PLANS, NO_RINGS, NO_WEBS, ODD, ONE, TWO

NO_COUNTS = ODD + [0, -1, -10 ** 19, "3", [3], (3,), ONE]
NO_PRICES = [None, True, False, 0, 1, "", "1", (), (1,), (1, 1), {}, {0: 1}, [], [1, 1, 1], [None], [True], [False],
             ["1"], [[1]], [(1,)], [-1], [1001], [10 ** 19], [-10 ** 19], [None, 1], [1, None], [True, 1], [1, False],
             [1, "1"], [1, [1]], [1, -1], [-1, 1], [1, 1001], [1001, 1], [ONE], [1, ONE], ONE]
FULL = Web(2, list(itertools.product((0, 1), (0, 1), (-1, 0, 1))))
WIDE = Web(1, [(0, 0, d) for d in range(-2, 3)])
ROOK = Web(1, [(0, 0, -2), (0, 0, -1), (0, 0, 1), (0, 0, 2)])
# Two places, all pairs of which can be told apart.
RICH = Web(2, [(0, 0, -1), (0, 0, 1), (0, 1, 0), (1, 0, -1), (1, 0, 0), (1, 0, 1), (1, 1, -1), (1, 1, 0), (1, 1, 1)])
SKEW = Web(2, [(0, 0, 1), (0, 1, -1), (0, 1, 1), (1, 0, -1), (1, 0, 1), (1, 1, -1)])
# A web whose least prices get into step late.
LATE = Web(2, [(0, 0, -1), (0, 0, 0), (0, 0, 1), (1, 0, 0), (1, 0, 1), (1, 1, -1), (1, 1, 0), (1, 1, 1)])
WEBS = by_words.sample_webs() + [ROOK, RICH, SKEW, Web(1, [(0, 0, 0)]), Web(2, [(0, 0, 0), (1, 1, 0)])]
SOME_PRICES = [[1, 1], [0, 3], [5, 2], [0, 0], [1000, 999], [7, 0]]
FEW_NEEDS = [(1, 0), (1, 1), (1, 2), (2, 1), (2, 3)]


def cases(longest):
    """Tuples (web, needs, n, ring, good plans): strips of all lengths up to the longest for the number of places."""
    for k, web in enumerate(WEBS):
        for needs in [(1, 1), FEW_NEEDS[k % len(FEW_NEEDS)]]:
            for n in range(1, longest[web.places] + 1):
                for ring in (False, True):
                    yield web, needs, n, ring, by_words.good_plans(web, n, needs, ring)


def refused(case, call):
    """Check the errors of a call for web, needs and prices that are none, and their order."""
    for web in NO_WEBS:
        raised(case, InvalidWeb, web, lambda: call(web, (1, 1), [1]))
    for needs in NO_NEEDS:
        raised(case, InvalidNeeds, needs, lambda: call(ONE, needs, [1]))
    for prices in NO_PRICES + [[1, 1]]:
        raised(case, InvalidPrices, prices, lambda: call(ONE, (1, 1), prices))
    for prices in NO_PRICES + [[1]]:
        raised(case, InvalidPrices, prices, lambda: call(TWO, (1, 1), prices))
    raised(case, InvalidWeb, None, lambda: call(None, None, None))
    raised(case, InvalidNeeds, 1, lambda: call(ONE, 1, None))
    raised(case, InvalidPrices, 1, lambda: call(ONE, (1, 1), 1))


class Interface(unittest.TestCase):
    wanted = {price: "(web, prices, plan)", least: "(web, needs, prices, n, *, ring=False)",
              least_plan: "(web, needs, prices, n, *, ring=False)", how_many: "(web, needs, prices, n, *, ring=False)",
              plan_at: "(web, needs, prices, n, at, *, ring=False)"}

    def test_signatures(self):
        for call, signature in self.wanted.items():
            self.assertEqual(str(inspect.signature(call)), signature)

    def test_defined_where_they_are_listed(self):
        for call in self.wanted:
            self.assertEqual(call.__module__, "hearunlike.standings")
            self.assertIs(vars(standings)[call.__name__], call)

    def test_by_name(self):
        self.assertEqual(price(plan=[[0], [0, 1]], prices=[2, 3], web=TWO), 7)
        for call in (least, least_plan, how_many):
            wanted = call(ONE, (1, 1), [2], 5, ring=True)
            self.assertEqual(call(ring=True, n=5, prices=[2], needs=(1, 1), web=ONE), wanted)
            with self.assertRaises(TypeError):
                call(ONE, (1, 1), [2], 5, True)
        wanted = plan_at(ONE, (1, 1), [2], 5, 1, ring=True)
        self.assertEqual(plan_at(ring=True, at=1, n=5, prices=[2], needs=(1, 1), web=ONE), wanted)
        with self.assertRaises(TypeError):
            plan_at(ONE, (1, 1), [2], 5, 1, True)

    def test_example(self):
        near = Web(1, [(0, 0, -1), (0, 0, 0), (0, 0, 1)])
        self.assertEqual([least(near, (1, 1), [1], 10 ** 15), least_plan(near, (1, 1), [1], 5),
                          how_many(near, (1, 1), [1], 5)],
                         [500000000000001, [[], [0], [0], [0], []], 2])


class Price(unittest.TestCase):
    def test_by_words(self):
        chance = random.Random(1)
        for web, plan, _ in by_words.sample_cases(6, 3):
            prices = [chance.randint(0, 1000) for _ in range(web.places)]
            self.assertEqual(price(web, prices, plan), by_words.price(prices, plan))

    def test_of_each_place(self):
        self.assertEqual(price(TWO, [3, 50], [[0, 1], [1], [], [0], [0]]), 209 - 100)
        self.assertEqual(price(TWO, [0, 1000], [[0], [1], [0]]), 1000)
        self.assertEqual(price(ONE, [1000], [[], [0], [0]]), 2000)
        self.assertEqual(price(ONE, [9], [[]]), 0)

    def test_errors(self):
        for web in NO_WEBS:
            raised(self, InvalidWeb, web, lambda: price(web, [1], [[0]]))
        for prices in NO_PRICES + [[1, 1]]:
            raised(self, InvalidPrices, prices, lambda: price(ONE, prices, [[0]]))
        for prices in NO_PRICES + [[1]]:
            raised(self, InvalidPrices, prices, lambda: price(TWO, prices, [[0]]))
        for plan in NO_PLANS + [[[1]]]:
            raised(self, InvalidPlan, plan, lambda: price(ONE, [1], plan))

    def test_order_of_errors(self):
        raised(self, InvalidWeb, None, lambda: price(None, None, None))
        raised(self, InvalidPrices, None, lambda: price(ONE, None, None))
        raised(self, InvalidPlan, None, lambda: price(ONE, [0], None))


class AllPlans(unittest.TestCase):
    """The answers against all plans of short strips."""

    def check(self, web, needs, prices, n, ring, good):
        cost, plans = by_words.cheapest(good, prices)
        told = (web.hears(), needs, prices, n, ring)
        self.assertEqual(least(web, needs, prices, n, ring=ring), cost, told)
        self.assertEqual(how_many(web, needs, prices, n, ring=ring), len(plans), told)
        self.assertEqual(least_plan(web, needs, prices, n, ring=ring), plans[0] if plans else None, told)
        for at in {0, 1, len(plans) // 2, len(plans) - 1} & set(range(len(plans))):
            self.assertEqual(plan_at(web, needs, prices, n, at, ring=ring), plans[at], told)
        raised(self, InvalidNumber, many := len(plans), lambda: plan_at(web, needs, prices, n, many, ring=ring))

    def test_cheapest_plans(self):
        chance = random.Random(2)
        kinds = set()
        for web, needs, n, ring, good in cases({1: 7, 2: 4}):
            prices = chance.choice(SOME_PRICES)[:web.places]
            self.check(web, needs, prices, n, ring, good)
            kinds.add((web.places, web.reach, ring, bool(good)))
        self.assertEqual(len(kinds), 12)

    def test_longer_strips(self):
        for web, needs, lengths_of in ((ROOK, (1, 1), (9, 10, 11)), (WIDE, (2, 1), (9, 10)), (RICH, (1, 1), (5,)),
                                       (SKEW, (1, 1), (5, 6)), (FULL, (1, 0), (5,)), (ONE, (1, 1), (8, 11))):
            for n in lengths_of:
                for ring in (False, True):
                    good = by_words.good_plans(web, n, needs, ring)
                    for prices in ([1, 1], [0, 2], [3, 0]):
                        self.check(web, needs, prices[:web.places], n, ring, good)

    def test_each_of_them_in_order(self):
        for web, n in ((ROOK, 9), (RICH, 5), (ONE, 9)):
            for prices in ([0, 0], [0, 1], [2, 2]):
                for ring in (False, True):
                    told = prices[:web.places]
                    plans = by_words.cheapest(by_words.good_plans(web, n, (1, 1), ring), told)[1]
                    found = [plan_at(web, (1, 1), told, n, at, ring=ring) for at in range(min(len(plans), 40))]
                    self.assertEqual(found, plans[:40])

    def test_all_needs(self):
        for web in (WIDE, RICH, FULL):
            for needs in ALL_NEEDS:
                for n in (1, 2, 3, 5) if web.places == 1 else (2, 3):
                    for ring in (False, True):
                        good = by_words.good_plans(web, n, needs, ring)
                        self.check(web, needs, [4, 3][:web.places], n, ring, good)

    def test_tuples_that_lead_around(self):
        # In a ring of 1 to 4 pieces several tuples lead from a piece to the same one.
        for web in (WIDE, ROOK, ONE, RICH, FULL, Web(1, [(0, 0, -2), (0, 0, 2)]), Web(2, [(0, 1, -1), (1, 0, 1)])):
            for n in (1, 2, 3, 4):
                for needs in ((1, 0), (1, 1), (2, 0)):
                    self.check(web, needs, [2, 1][:web.places], n, True, by_words.good_plans(web, n, needs, True))
        self.assertEqual(least(ONE, (1, 1), [1], 1, ring=True), 1)
        self.assertIsNone(least(ONE, (2, 1), [1], 1, ring=True))
        self.assertIsNone(least(ONE, (1, 1), [1], 3, ring=True))
        self.assertEqual(least(ONE, (3, 0), [1], 3, ring=True), 3)

    def test_watchers_without_a_price(self):
        # The second place needs no watchers, and costs nothing: any of them may be there.
        web = Web(2, [(0, 0, 0), (0, 1, 0), (0, 1, 1)])
        good = by_words.good_plans(web, 3, (1, 0), False)
        self.assertEqual(how_many(web, (1, 0), [1, 0], 3), 8)
        self.assertEqual(by_words.cheapest(good, [1, 0])[1],
                         [plan_at(web, (1, 0), [1, 0], 3, at) for at in range(8)])
        self.assertEqual(least_plan(web, (1, 0), [1, 0], 3), [[0], [0], [0]])
        self.assertEqual(plan_at(web, (1, 0), [1, 0], 3, 7), [[0, 1], [0, 1], [0, 1]])

    def test_no_good_plan(self):
        for web, needs, n, ring in ((ONE, (1, 1), 2, False), (Web(1, []), (1, 0), 3, False), (FULL, (1, 1), 9, True),
                                    (FULL, (1, 1), 40, False), (ONE, (3, 3), 60, True), (Web(2, []), (1, 0), 16, True),
                                    (Web(1, []), (1, 0), 10 ** 15, False), (ONE, (3, 0), 10 ** 15, False)):
            prices = [0, 1][:web.places]
            self.assertIsNone(least(web, needs, prices, n, ring=ring))
            if n < 100:
                self.assertIsNone(least_plan(web, needs, prices, n, ring=ring))
                self.assertEqual(how_many(web, needs, prices, n, ring=ring), 0)
                for at in (0, 1, -1):
                    raised(self, InvalidNumber, at, lambda: plan_at(web, needs, prices, n, at, ring=ring))

    def test_by_turns(self):
        wanted = {}
        asked = list(itertools.product(((1, 1), (1, 0)), ([1, 2], [2, 1]), (3, 4), (False, True)))
        for _ in range(3):
            for needs, prices, n, ring in asked:
                found = (least(RICH, needs, prices, n, ring=ring), least_plan(RICH, needs, prices, n, ring=ring),
                         how_many(RICH, needs, prices, n, ring=ring), plan_at(RICH, needs, prices, n, 0, ring=ring))
                key = (needs, tuple(prices), n, ring)
                self.assertEqual(wanted.setdefault(key, found), found)
                cost, plans = by_words.cheapest(by_words.good_plans(RICH, n, needs, ring), prices)
                self.assertEqual(found, (cost, plans[0], len(plans), plans[0]))


class LongStrips(unittest.TestCase):
    def test_least_is_the_price_of_all_told_plans(self):
        chance = random.Random(3)
        for web, needs, n, ring in ((ROOK, (1, 1), 60, False), (RICH, (1, 1), 60, False), (SKEW, (1, 1), 16, True),
                                    (ROOK, (1, 2), 16, True), (ONE, (1, 1), 60, True), (ONE, (1, 1), 59, True)):
            prices = [chance.randint(1, 1000) for _ in range(web.places)]
            many = how_many(web, needs, prices, n, ring=ring)
            cost = least(web, needs, prices, n, ring=ring)
            plans = [plan_at(web, needs, prices, n, at, ring=ring) for at in sorted({0, many // 3, many - 1})]
            self.assertEqual(plans, sorted(plans))
            self.assertEqual(plans[0], least_plan(web, needs, prices, n, ring=ring))
            for plan in plans:
                self.assertEqual(len(plan), n)
                self.assertTrue(by_words.is_good(web, plan, needs, ring))
                self.assertEqual(price(web, prices, plan), cost)

    def test_around_the_length_where_periods_begin(self):
        for web, needs, prices in ((ROOK, (1, 1), [9]), (RICH, (1, 1), [8, 9]), (SKEW, (1, 1), [3, 2]),
                                   (TWO, (1, 0), [1, 4])):
            for n in (58, 59, 60, 61, 62, 63, 75):
                plan = least_plan(web, needs, prices, n)
                wanted = None if plan is None else price(web, prices, plan)
                self.assertEqual(least(web, needs, prices, n), wanted)
        for n in range(57, 66):
            plan = least_plan(ONE, (1, 1), [7], n, ring=True)
            self.assertEqual(least(ONE, (1, 1), [7], n, ring=True), price(ONE, [7], plan))

    def test_before_prices_repeat(self):
        head, period, _ = lengths(LATE, (1, 1), [8, 9])
        self.assertGreater(len(head), 100)
        for n in (61, 62, 77, len(head) - 1, len(head), len(head) + 1, len(head) + 2 * period + 1):
            plan = least_plan(LATE, (1, 1), [8, 9], n)
            self.assertEqual(least(LATE, (1, 1), [8, 9], n), price(LATE, [8, 9], plan))

    def test_by_the_period(self):
        asked = [(web, needs, prices, False) for web in (ONE, ROOK, RICH, SKEW, WIDE, TWO)
                 for needs in ((1, 0), (1, 1)) for prices in ([1, 9], [5, 4])]
        asked += [(ONE, needs, [prices], True) for needs in ((1, 0), (1, 1), (2, 0)) for prices in (1, 9)]
        for web, needs, prices, ring in asked:
            told = prices[:web.places]
            head, period, rise = lengths(web, needs, told, ring=ring)
            for n in list(range(10 ** 15 - 7, 10 ** 15 + 1)) + [10 ** 15 // 3, 10 ** 6, 10 ** 19 + 1]:
                times = (n - len(head) + period - 1) // period
                value = head[n - times * period - 1]
                wanted = None if value is None else value + times * rise
                self.assertEqual(least(web, needs, told, n, ring=ring), wanted)

    def test_known_answers(self):
        self.assertEqual([least(ONE, (1, 1), [1], n) for n in range(1, 12)], [1, None, 2, 3, 3, 4, 4, 5, 5, 6, 6])
        self.assertEqual(least(ONE, (1, 1), [3], 10 ** 15 - 1), 3 * (5 * 10 ** 14))
        self.assertEqual(least(ONE, (1, 1), [1], 10 ** 15, ring=True), 5 * 10 ** 14)
        self.assertEqual(least(Web(1, [(0, 0, 0)]), (1, 1), [9], 10 ** 15), 9 * 10 ** 15)
        self.assertEqual(how_many(FULL, (1, 0), [0, 0], 1), 3)


class WrongArguments(unittest.TestCase):
    calls = [least, least_plan, how_many, lambda *told, **more: plan_at(*told, 0, **more)]

    def test_errors(self):
        for call in self.calls:
            refused(self, lambda *told: call(*told, 5))
            for n in NO_COUNTS:
                raised(self, InvalidNumber, n, lambda: call(ONE, (1, 1), [1], n))
            for ring in NO_RINGS:
                raised(self, InvalidNumber, ring, lambda: call(ONE, (1, 1), [1], 5, ring=ring))

    def test_least_and_greatest_prices(self):
        for call in self.calls:
            for prices in ([0, 0], [1000, 1000], [0, 1000]):
                call(TWO, (1, 0), prices, 5)
                call(ONE, (1, 1), prices[:1], 5)

    def test_order_of_errors(self):
        for call in self.calls:
            raised(self, InvalidWeb, None, lambda: call(None, None, None, None, ring=None))
            raised(self, InvalidNeeds, 1, lambda: call(ONE, 1, None, None, ring=None))
            raised(self, InvalidPrices, 1, lambda: call(ONE, (1, 1), 1, None, ring=None))
            raised(self, InvalidNumber, 0, lambda: call(ONE, (1, 1), [1], 0, ring=None))
            raised(self, InvalidNumber, None, lambda: call(ONE, (1, 1), [1], 5, ring=None))

    def test_order_of_errors_of_plan_at(self):
        raised(self, InvalidWeb, None, lambda: plan_at(None, None, None, None, None, ring=None))
        raised(self, InvalidNeeds, None, lambda: plan_at(ONE, None, None, None, None, ring=None))
        raised(self, InvalidPrices, None, lambda: plan_at(ONE, (1, 1), None, None, None, ring=None))
        raised(self, InvalidNumber, "n", lambda: plan_at(ONE, (1, 1), [1], "n", "at", ring="ring"))
        raised(self, InvalidNumber, "ring", lambda: plan_at(ONE, (1, 1), [1], 5, "at", ring="ring"))
        raised(self, InvalidNumber, 0, lambda: plan_at(ONE, (1, 1), [1], 5, 7, ring=0))
        raised(self, InvalidNumber, "at", lambda: plan_at(ONE, (1, 1), [1], 5, "at", ring=True))

    def test_at(self):
        many = how_many(ONE, (1, 1), [1], 8)
        self.assertGreater(many, 1)
        self.assertEqual(plan_at(ONE, (1, 1), [1], 8, 0), least_plan(ONE, (1, 1), [1], 8))
        plan_at(ONE, (1, 1), [1], 8, many - 1)
        for at in NO_COUNTS[len(NO_COUNTS) - 5:] + ODD + [-1, many, many + 1, 10 ** 40, -10 ** 40]:
            if at != 0:
                raised(self, InvalidNumber, at, lambda: plan_at(ONE, (1, 1), [1], 8, at))

    def test_at_far_beyond_all_strips(self):
        for at in (-1, None, True, "0"):
            raised(self, InvalidNumber, at, lambda: plan_at(ONE, (1, 1), [1], 10 ** 19, at))


class ArgumentsAndResults(unittest.TestCase):
    def test_arguments_stay(self):
        prices, plan = [2, 1], [[0], [0, 1]]
        held = copy.deepcopy((prices, plan))
        price(TWO, prices, plan)
        for call in WrongArguments.calls:
            call(RICH, (1, 1), prices, 5)
            call(RICH, (1, 1), prices, 4, ring=True)
        self.assertEqual((prices, plan), held)

    def test_new_lists(self):
        for ring in (False, True):
            for n in (4, 9):
                first = [least_plan(RICH, (1, 1), [1, 1], n, ring=ring), plan_at(RICH, (1, 1), [1, 1], n, 0, ring=ring)]
                found = lists_in(first)
                self.assertEqual(len({id(x) for x in found}), len(found))
                held = copy.deepcopy(first)
                for x in found[1:]:
                    x.append("changed")
                again = [least_plan(RICH, (1, 1), [1, 1], n, ring=ring), plan_at(RICH, (1, 1), [1, 1], n, 0, ring=ring)]
                self.assertEqual(again, held)

    def test_kinds_of_results(self):
        self.assertIs(type(price(ONE, [1], [[]])), int)
        for n, ring in ((3, False), (3, True), (9, False), (9, True), (99, False)):
            self.assertIs(type(least(RICH, (1, 0), [1, 1], n, ring=ring)), int)
            if n < 99:
                self.assertIs(type(how_many(RICH, (1, 0), [1, 1], n, ring=ring)), int)
                self.assertIs(type(least_plan(RICH, (1, 0), [1, 1], n, ring=ring)), list)


class Limits(unittest.TestCase):
    def test_price(self):
        self.assertEqual(within_seconds(self, price, TWO, [1000, 1000], [[0, 1]] * 200), 400000)

    def test_least(self):
        for web in WEBS:
            for needs in ((1, 0), (1, 1), (3, 6)):
                within_seconds(self, least, web, needs, [8, 9][:web.places], 10 ** 15)
                within_seconds(self, least, web, needs, [1000, 999][:web.places], 60)
                within_seconds(self, least, web, needs, [1000, 999][:web.places], 16, ring=True)
        within_seconds(self, least, ONE, (1, 1), [9], 10 ** 15, ring=True)
        within_seconds(self, least, ONE, (1, 1), [1000], 60, ring=True)

    def test_plans(self):
        for web, needs in ((FULL, (1, 0)), (RICH, (1, 1)), (SKEW, (1, 1)), (ROOK, (1, 1)), (WIDE, (1, 0)),
                           (ONE, (1, 1))):
            for prices in ([0, 0], [1000, 999]):
                for n, ring in ((60, False), (16, True), (60, True))[:3 if web == ONE else 2]:
                    told = [web, needs, prices[:web.places], n]
                    many = within_seconds(self, how_many, *told, ring=ring)
                    first = within_seconds(self, least_plan, *told, ring=ring)
                    last = within_seconds(self, plan_at, *told, many - 1, ring=ring)
                    self.assertLessEqual(first, last)
                    self.assertTrue(by_words.is_good(web, last, needs, ring))


if __name__ == "__main__":
    unittest.main()
