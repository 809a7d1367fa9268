"""Promises [1], [2] and [3]: the interface, arguments and results, and the limits."""

import copy
import inspect
import unittest

import by_words
from by_words import NEAR, lists_in, within_seconds
from hearunlike import plans, webs
from hearunlike.errors import WatchError
from hearunlike.plans import fault, hearers, idle, is_good, is_plan, two, vital, where
from hearunlike.webs import Web

SIGNATURES = {
    is_plan: "(web, value)",
    hearers: "(web, plan, spot, *, ring=False)",
    fault: "(web, plan, needs, *, ring=False)",
    is_good: "(web, plan, needs, *, ring=False)",
    where: "(web, plan, heard, *, lies=0, ring=False)",
    two: "(web, plan, heard, *, ring=False)",
    idle: "(web, plan, needs, *, ring=False)",
    vital: "(web, n, needs, *, ring=False)",
}


def calls_of(web, plan, heard):
    """Each function with arguments that it takes."""
    spot = (1, 0)
    return [(is_plan, [web, plan]), (hearers, [web, plan, spot]), (fault, [web, plan, (2, 2)]),
            (is_good, [web, plan, (1, 1)]), (where, [web, plan, heard]), (two, [web, plan, heard]),
            (idle, [web, plan, (1, 1)]), (vital, [web, 4, (1, 1)])]


class Interface(unittest.TestCase):
    def test_signatures(self):
        for call, wanted in SIGNATURES.items():
            self.assertEqual(str(inspect.signature(call)), wanted, call.__name__)
            self.assertEqual(call.__module__, "hearunlike.plans")
        self.assertEqual(str(inspect.signature(Web)), "(places, hears)")
        self.assertEqual(str(inspect.signature(Web.audible)), "(self, n, spot, *, ring=False)")
        self.assertEqual(str(inspect.signature(Web.hears)), "(self)")

    def test_defined_where_they_are_listed(self):
        self.assertEqual(Web.__module__, "hearunlike.webs")
        self.assertEqual(WatchError.__module__, "hearunlike.errors")
        for name in ("hears", "audible", "__eq__"):
            self.assertIn(name, vars(Web))
        self.assertTrue(all(vars(plans)[call.__name__] is call for call in SIGNATURES))
        self.assertIs(vars(webs)["Web"], Web)

    def test_by_name(self):
        web, plan = Web(1, NEAR), [[0], [0], [0], []]
        for call, values in calls_of(web, plan, [(1, 0), (2, 0)]):
            names = list(inspect.signature(call).parameters)
            self.assertEqual(call(**dict(zip(names, values))), call(*values))
        self.assertEqual(web.audible(n=3, spot=(0, 0), ring=True), [(0, 0), (1, 0), (2, 0)])

    def test_only_by_name_after_the_star(self):
        web, plan = Web(1, NEAR), [[0], [0], [0], []]
        for call, values in calls_of(web, plan, [(1, 0)])[1:]:
            with self.assertRaises(TypeError):
                call(*values, True)
        with self.assertRaises(TypeError):
            web.audible(3, (0, 0), True)


class ArgumentsAndResults(unittest.TestCase):
    def test_arguments_stay(self):
        for web, plan, ring in by_words.sample_cases(5, 2):
            if len(plan) > 1:
                heard = by_words.watchers(plan)[:2]
                held = copy.deepcopy((plan, heard, web.hears()))
                for call, values in calls_of(web, plan, heard):
                    call(*values)
                self.assertEqual((plan, heard, web.hears()), held)

    def test_arguments_stay_when_an_error_is_raised(self):
        web, plan, heard = Web(1, NEAR), [[0], [0], []], [(1, 0), (0, 0)]
        for call in (where, two):
            with self.assertRaises(WatchError):
                call(web, plan, heard)
        wrong = [[0], [1, 0]]
        with self.assertRaises(WatchError):
            idle(web, wrong, (1, 1))
        self.assertEqual((plan, heard, wrong), ([[0], [0], []], [(1, 0), (0, 0)], [[0], [1, 0]]))

    def test_new_lists(self):
        web, plan, heard = Web(1, NEAR), [[0], [0], [0], []], []
        given = lists_in([plan, heard])
        for call, values in calls_of(web, plan, heard):
            first, second = call(*values), call(*values)
            self.assertEqual(first, second)
            found = lists_in(first) + lists_in(second)
            self.assertEqual(len({id(x) for x in found + given}), len(found + given), call.__name__)
            for x in found:
                x.append("changed")
            self.assertEqual(lists_in(call(*values)), lists_in(call(*values)))
            self.assertNotIn("changed", str(call(*values)))

    def test_kinds_of_results(self):
        web, plan = Web(2, [(0, 0, 0), (1, 1, 0), (0, 1, 1)]), [[0, 1], [0], [1]]
        for call, values in calls_of(web, plan, []):
            wanted = bool if call in (is_plan, is_good) else tuple if call is fault else list
            if call is not vital:
                self.assertIs(type(call(*values)), wanted)
        for spot in hearers(web, plan, (1, 1)) + web.audible(3, (0, 0)) + where(web, plan, [], lies=3):
            self.assertIs(type(spot), tuple)
            self.assertEqual([type(x) for x in spot], [int, int])
        for one, other in two(web, [[], []], []):
            self.assertEqual((type(one), type(other)), (tuple, tuple))


class Limits(unittest.TestCase):
    def plans_at_the_limit(self):
        """The widest webs, each with the longest row and the longest ring of few and of all watchers."""
        for web in by_words.sample_webs()[:4]:
            for n, ring in ((200, False), (60, True)):
                yield web, [list(range(web.places)) for _ in range(n)], ring
                yield web, [[] for _ in range(n)], ring

    def test_plans(self):
        for web, plan, ring in self.plans_at_the_limit():
            self.assertIs(within_seconds(self, is_plan, web, plan), True)
            within_seconds(self, hearers, web, plan, (len(plan) - 1, 0), ring=ring)
            for needs in ((1, 1), (3, 6)):
                found = within_seconds(self, fault, web, plan, needs, ring=ring)
                self.assertIs(within_seconds(self, is_good, web, plan, needs, ring=ring), found is None)
                within_seconds(self, idle, web, plan, needs, ring=ring)

    def test_heard(self):
        for web, plan, ring in self.plans_at_the_limit():
            for heard in ([], by_words.watchers(plan), hearers(web, plan, (30, 0), ring=ring)):
                within_seconds(self, where, web, plan, heard, lies=3, ring=ring)
                within_seconds(self, two, web, plan, heard, ring=ring)

    def test_longest_strips_have_their_answers(self):
        web, plan = Web(1, NEAR), [[0]] * 200
        self.assertEqual(idle(web, plan, (1, 1)), [(t, 0) for t in range(200) if t not in (2, 197)])
        self.assertEqual(where(web, plan, [(150, 0), (151, 0), (152, 0)]), [(151, 0)])
        self.assertEqual(two(web, [[] for _ in range(200)], [])[-1], ((198, 0), (199, 0)))
        self.assertIsNone(fault(web, [[0]] * 60, (2, 2), ring=True))

    def test_vital(self):
        for web in by_words.sample_webs():
            for ring in (False, True):
                within_seconds(self, vital, web, 60, (1, 1), ring=ring)
        self.assertEqual(vital(Web(1, NEAR), 60, (1, 1)), [(2, 0), (57, 0)])
        self.assertEqual(vital(Web(1, NEAR), 60, (1, 1), ring=True), [])

    def test_numbers_of_twenty_digits(self):
        big = 10 ** 20 - 1
        web = Web(1, NEAR)
        self.assertEqual(within_seconds(self, web.audible, big, (0, 0), ring=True), [(0, 0), (1, 0), (big - 1, 0)])
        self.assertIs(is_plan(web, [[big]]), False)


if __name__ == "__main__":
    unittest.main()
