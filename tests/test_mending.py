"""Promises [50] and [51], with [1] to [3] for them: mended plans, and webs compared."""

import copy
import inspect
import itertools
import random
import unittest

import by_words
from by_words import ALL_NEEDS, NEAR, lists_in, raised, within_seconds
from hearunlike import mending
from hearunlike.errors import InvalidNeeds, InvalidNumber, InvalidPlan, InvalidPrices, InvalidWeb
from hearunlike.mending import mended, parted
from hearunlike.plans import is_good
from hearunlike.standings import least_plan
from hearunlike.webs import Web
from test_lengths import FEW_NEEDS, SMALL
from test_plans import NO_NEEDS, NO_PLANS, NO_RINGS, NO_WEBS, ONE, TWO
from test_standings import FULL, RICH, ROOK, SKEW, SOME_PRICES, WEBS, WIDE, refused


def mirrored(web):
    return Web(web.places, [(i, j, -d) for i, j, d in web.hears()])


def swapped(web):
    """The web whose two places have changed what is heard of them: it is good for the same plans."""
    return Web(2, [(i, 1 - j, d) for i, j, d in web.hears()])


def some_plan(web, n, chance):
    return [[j for j in range(web.places) if chance.random() < 0.3] for _ in range(n)]


class Interface(unittest.TestCase):
    wanted = {mended: "(web, plan, needs, prices, *, ring=False)", parted: "(web, other, needs)"}

    def test_signatures(self):
        for call, signature in self.wanted.items():
            self.assertEqual(str(inspect.signature(call)), signature)
            self.assertEqual(call.__module__, "hearunlike.mending")
            self.assertIs(vars(mending)[call.__name__], call)

    def test_by_name(self):
        wanted = mended(ONE, [[], [], [0], []], (1, 1), [1], ring=True)
        self.assertEqual(mended(ring=True, prices=[1], needs=(1, 1), plan=[[], [], [0], []], web=ONE), wanted)
        self.assertEqual(parted(needs=(1, 1), other=ROOK, web=ONE), parted(ONE, ROOK, (1, 1)))
        with self.assertRaises(TypeError):
            mended(ONE, [[]], (1, 1), [1], True)

    def test_example(self):
        near = Web(1, [(0, 0, -1), (0, 0, 0), (0, 0, 1)])
        beside = Web(1, [(0, 0, -1), (0, 0, 1)])
        self.assertEqual([mended(near, [[], [0], [], [], [0]], (1, 1), [1]), parted(near, beside, (1, 1))],
                         [[[], [0], [0], [0], [0]], ([[0]], 0)])


class Mended(unittest.TestCase):
    def check(self, web, plan, needs, prices, ring):
        found = mended(web, plan, needs, prices, ring=ring)
        wanted = by_words.mended(web, plan, needs, prices, ring)
        self.assertEqual(found, wanted, (web.hears(), plan, needs, prices, ring))
        return found

    def test_all_plans_of_short_strips(self):
        chance = random.Random(1)
        seen = {"same": 0, "more": 0, "none": 0}
        for k, web in enumerate(WEBS):
            for n in range(1, 8 if web.places == 1 else 5):
                for ring in (False, True):
                    for needs in ((1, 1), FEW_NEEDS[k % len(FEW_NEEDS)]):
                        plan = some_plan(web, n, chance)
                        prices = chance.choice(SOME_PRICES)[:web.places]
                        found = self.check(web, plan, needs, prices, ring)
                        seen["none" if found is None else "same" if found == plan else "more"] += 1
        for kind, many in seen.items():
            self.assertGreater(many, 10, kind)

    def test_longer_strips(self):
        chance = random.Random(2)
        for web, n in ((ROOK, 9), (ROOK, 11), (WIDE, 10), (RICH, 5), (SKEW, 5), (ONE, 10)):
            for ring in (False, True):
                for prices in ([1, 1], [2, 0], [0, 5]):
                    plan = some_plan(web, n, chance)
                    self.check(web, plan, (1, 1), prices[:web.places], ring)
                    self.check(web, plan, (2, 1), prices[:web.places], ring)

    def test_each_plan_of_a_strip(self):
        for plan, _ in by_words.plans_in_order(1, 6):
            for ring in (False, True):
                self.check(ONE, plan, (1, 1), [3], ring)
        for plan, _ in by_words.plans_in_order(2, 2):
            for ring in (False, True):
                self.check(RICH, plan, (1, 1), [3, 2], ring)
                self.check(RICH, plan, (1, 0), [3, 0], ring)

    def test_good_already(self):
        plan = [[0], [0], [0], [0], [0]]
        self.assertEqual(mended(ONE, plan, (1, 1), [1]), plan)
        self.assertEqual(mended(ONE, plan, (1, 1), [0]), plan)
        # A watcher without a price comes only where the plan is the first of these.
        self.assertEqual(mended(ONE, [[], [0], [0], [0], []], (1, 1), [0]), [[], [0], [0], [0], []])
        self.assertEqual(mended(ONE, [[], [0], [0], [0], [0]], (1, 1), [9]), [[], [0], [0], [0], [0]])
        two = Web(2, [(0, 0, 0), (0, 1, 0), (0, 1, 1)])
        self.assertEqual(mended(two, [[0], [0]], (1, 0), [5, 0]), [[0], [0]])

    def test_first_of_the_cheapest_even_if_watchers_are_free(self):
        # The piece [0, 1] comes ahead of [1] in order, and costs the same.
        two = Web(2, [(1, 0, 0), (1, 1, 0)])
        self.assertEqual(mended(two, [[1], [], [0]], (1, 0), [0, 4]), [[0, 1], [0, 1], [0, 1]])
        self.assertEqual(mended(two, [[1], [], [0]], (1, 0), [1, 4]), [[1], [1], [0, 1]])

    def test_can_not_be_mended(self):
        self.assertIsNone(mended(ONE, [[], []], (1, 1), [1]))
        self.assertIsNone(mended(ONE, [[0], [0], [0]], (1, 1), [1], ring=True))
        self.assertIsNone(mended(FULL, [[0, 1]] * 16, (1, 1), [1, 1], ring=True))
        self.assertIsNone(mended(Web(1, []), [[0]] * 60, (1, 0), [1]))

    def test_without_watchers(self):
        for web, n in ((ONE, 7), (RICH, 4), (ROOK, 12), (SKEW, 16), (ONE, 60)):
            for ring in (False, True)[:2 if n < 60 or web == ONE else 1]:
                prices = [4, 3][:web.places]
                empty = [[] for _ in range(n)]
                self.assertEqual(mended(web, empty, (1, 1), prices, ring=ring),
                                 least_plan(web, (1, 1), prices, n, ring=ring))

    def test_all_needs(self):
        chance = random.Random(3)
        for web, n in ((WIDE, 5), (RICH, 3)):
            for needs in ALL_NEEDS:
                for ring in (False, True):
                    self.check(web, some_plan(web, n, chance), needs, [2, 3][:web.places], ring)

    def test_errors(self):
        refused(self, lambda web, needs, prices: mended(web, [[0]], needs, prices))
        for plan in NO_PLANS + [[[1]], [[0], [0, 1]]]:
            raised(self, InvalidPlan, plan, lambda: mended(ONE, plan, (1, 1), [1]))
        for ring in NO_RINGS:
            raised(self, InvalidNumber, ring, lambda: mended(ONE, [[0]], (1, 1), [1], ring=ring))

    def test_order_of_errors(self):
        raised(self, InvalidWeb, None, lambda: mended(None, None, None, None, ring=None))
        raised(self, InvalidPlan, None, lambda: mended(ONE, None, None, None, ring=None))
        raised(self, InvalidNeeds, None, lambda: mended(ONE, [[0]], None, None, ring=None))
        raised(self, InvalidPrices, None, lambda: mended(ONE, [[0]], (1, 1), None, ring=None))
        raised(self, InvalidNumber, None, lambda: mended(ONE, [[0]], (1, 1), [1], ring=None))

    def test_arguments_stay_and_lists_are_new(self):
        plan, prices = [[0]] * 3 + [[], [1]], [3, 2]
        held = copy.deepcopy((plan, prices))
        for ring in (False, True):
            first, second = mended(RICH, plan, (1, 1), prices, ring=ring), mended(RICH, plan, (1, 1), prices, ring=ring)
            self.assertEqual(first, second)
            found = lists_in([first, second])[1:] + lists_in(plan)[:2]
            self.assertEqual(len({id(x) for x in found}), len(found))
            for x in lists_in(first):
                x.append("changed")
            self.assertEqual(mended(RICH, plan, (1, 1), prices, ring=ring), second)
        self.assertEqual((plan, prices), held)

    def test_limits(self):
        chance = random.Random(4)
        for web in WEBS:
            for n, ring in ((60, False), (16, True), (60, True))[:3 if web == ONE else 2]:
                for plan in (some_plan(web, n, chance), [[] for _ in range(n)], by_words.full(web, n)):
                    for needs in ((1, 0), (1, 1)):
                        found = within_seconds(self, mended, web, plan, needs, [1000, 999][:web.places], ring=ring)
                        if found is not None:
                            self.assertTrue(by_words.is_good(web, found, needs, ring))
                            self.assertLessEqual(set(by_words.watchers(plan)), set(by_words.watchers(found)))


class Parted(unittest.TestCase):
    def check(self, web, other, needs, most):
        """Check against all rows up to the number of pieces of the answer, or up to the most."""
        found = parted(web, other, needs)
        longest = most if found is None else len(found[0])
        self.assertEqual(found, by_words.parted(web, other, needs, longest), (web.hears(), other.hears(), needs))
        if found is not None:
            self.assertLessEqual(len(found[0]), 12 * max(web.reach, other.reach) + 1)
            plan, number = found
            self.assertEqual([is_good(one, plan, needs) for one in (web, other)], [number == 0, number == 1])
            self.assertEqual(parted(other, web, needs), (plan, 1 - number))
        else:
            self.assertIsNone(parted(other, web, needs))
        return found

    def test_webs_of_one_place(self):
        webs = SMALL + [web for web in WEBS if web.places == 1 and web.reach == 2]
        numbers = set()
        for web, other in itertools.product(webs, repeat=2):
            for needs in ((1, 1), (2, 1)):
                found = self.check(web, other, needs, 8)
                numbers.add(None if found is None else (len(found[0]), found[1]))
        self.assertGreater(len(numbers), 8)

    def test_all_webs_of_one_place_and_their_neighbours(self):
        chance = random.Random(5)
        ones = [(0, 0, d) for d in range(-2, 3)]
        longest = 0
        for many in range(6):
            for hears in itertools.combinations(ones, many):
                other = [item for item in ones if (item in hears) != (chance.random() < 0.3)]
                found = self.check(Web(1, list(hears)), Web(1, other), (1, 1), 9)
                longest = max(longest, 0 if found is None else len(found[0]))
        self.assertGreater(longest, 3)

    def test_webs_of_two_places(self):
        chance = random.Random(6)
        twos = list(itertools.product((0, 1), (0, 1), (-1, 0, 1)))
        lengths_seen = set()
        for k in range(60):
            hears = set(chance.sample(twos, chance.randint(5, 9)))
            other = hears ^ set(chance.sample(twos, 1 + k % 2))
            found = self.check(Web(2, sorted(hears)), Web(2, sorted(other)), [(1, 1), (1, 0), (2, 1)][k % 3], 4)
            lengths_seen.add(0 if found is None else len(found[0]))
        self.assertGreaterEqual(lengths_seen, {0, 1, 2, 3})

    def test_equal_webs(self):
        for web in WEBS:
            for needs in FEW_NEEDS:
                self.assertIsNone(parted(web, Web(web.places, web.hears()[::-1]), needs))

    def test_mirrored_webs(self):
        found = set()
        for web in WEBS:
            for needs in ((1, 0), (1, 1)):
                found.add(self.check(web, mirrored(web), needs, 8 if web.places == 1 else 4) is None)
        self.assertEqual(found, {True, False})

    def test_alike_without_being_equal(self):
        for web in [web for web in WEBS if web.places == 2]:
            for needs in ((1, 0), (1, 1), (2, 2)):
                self.assertIsNone(self.check(web, swapped(web), needs, 4))
        self.assertFalse(RICH == swapped(RICH))
        self.assertIsNone(parted(Web(1, []), Web(1, [(0, 0, 0)]), (2, 0)))
        self.assertIsNone(parted(Web(2, []), FULL, (1, 1)))

    def test_which_of_the_two(self):
        self.assertEqual(parted(Web(1, [(0, 0, 0)]), Web(1, []), (1, 1)), ([[0]], 0))
        self.assertEqual(parted(Web(1, []), Web(1, [(0, 0, 0)]), (1, 1)), ([[0]], 1))

    def test_first_in_order_of_the_shortest(self):
        near, only = Web(1, NEAR), Web(1, [(0, 0, 0)])
        self.assertEqual(self.check(near, only, (1, 0), 3), ([[], [0]], 0))
        self.assertEqual(self.check(near, only, (1, 1), 3), ([[0], [0]], 1))

    def test_rows_not_rings(self):
        # As rings of any length these webs are good for the same plans turned around, as rows they are not.
        for web in (Web(1, [(0, 0, -1)]), Web(1, [(0, 0, -1), (0, 0, 0)])):
            self.check(web, mirrored(web), (1, 0), 9)

    def test_different_needs(self):
        for needs in ALL_NEEDS:
            self.check(WIDE, ROOK, needs, 8)
            self.check(RICH, SKEW, needs, 3)

    def test_errors(self):
        for web in NO_WEBS:
            raised(self, InvalidWeb, web, lambda: parted(web, ONE, (1, 1)))
            raised(self, InvalidWeb, web, lambda: parted(ONE, web, (1, 1)))
            raised(self, InvalidWeb, web, lambda: parted(TWO, web, (1, 1)))
        for needs in NO_NEEDS:
            raised(self, InvalidNeeds, needs, lambda: parted(ONE, ROOK, needs))
            raised(self, InvalidNeeds, needs, lambda: parted(ONE, ONE, needs))

    def test_different_numbers_of_places(self):
        raised(self, InvalidWeb, TWO, lambda: parted(ONE, TWO, (1, 1)))
        raised(self, InvalidWeb, ONE, lambda: parted(TWO, ONE, (1, 1)))
        raised(self, InvalidWeb, TWO, lambda: parted(Web(1, []), TWO, None))

    def test_order_of_errors(self):
        raised(self, InvalidWeb, 1, lambda: parted(1, 2, None))
        raised(self, InvalidWeb, 2, lambda: parted(ONE, 2, None))
        raised(self, InvalidNeeds, None, lambda: parted(ONE, ROOK, None))

    def test_new_lists(self):
        first, second = parted(RICH, SKEW, (1, 1)), parted(RICH, SKEW, (1, 1))
        found = lists_in(first) + lists_in(second)
        self.assertEqual(len({id(x) for x in found}), len(found))
        held = copy.deepcopy(second)
        for x in lists_in(first):
            x.append("changed")
        self.assertEqual(parted(RICH, SKEW, (1, 1)), held)
        self.assertEqual([type(x) for x in (second, second[0], second[1])], [tuple, list, int])

    def test_limits(self):
        for web in WEBS:
            for other in WEBS:
                if web.places == other.places:
                    within_seconds(self, parted, web, other, (1, 1))
            if web.places == 2:
                for needs in ((1, 0), (1, 1), (3, 0)):
                    within_seconds(self, parted, web, swapped(web), needs)


if __name__ == "__main__":
    unittest.main()
