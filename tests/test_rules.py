"""Promises [20] and [21], with [1] to [3] for them: rules and their faults."""

import copy
import inspect
import itertools
import random
import unittest

import by_words
from by_words import ALL_NEEDS, NEAR, lists_in, raised, within_seconds
from hearunlike import rules
from hearunlike.errors import InvalidList, InvalidNeeds, InvalidNumber, InvalidRule, InvalidWeb
from hearunlike.rules import Rule, rule_fault
from hearunlike.webs import Web
from test_plans import NO_NEEDS, NO_RINGS, NO_WEBS, ODD, ONE, TWO

ALL = [[0, 1]]
# What is no list of pieces; a list without any is one, but not for a block.
NO_PIECES = [None, True, False, 0, 1, "", "o.", (), ([0],), {}, {0: []}, [None], [0], [True], ["0"], [()], [(0,)],
             [[0], (0,)], [{}], [[0], None], [[-1]], [[2]], [[10 ** 19]], [[0, 0]], [[1, 1]], [[1, 0]], [[0, 1, 1]],
             [[True]], [[False]], [[0, True]], [[False, 1]], [[None]], [["0"]], [[[0]]], [[(0,)]], ONE, [ONE], [[ONE]]]
# Rules whose first fault comes at the last number that can tell anything new: (web, parts, needs, ring, answer).
LATE = [
    (Web(2, [(0, 0, -1), (0, 0, 0), (0, 1, 1), (1, 0, 1), (1, 1, -1)]), (ALL * 3, [[1]], ALL * 3), (1, 1), True,
     (5, ("alike", (4, 1), (6, 0)))),
    (Web(2, [(0, 0, -1), (0, 0, 1), (0, 1, 1), (1, 0, 1), (1, 1, -1)]), (ALL * 6, [[0, 1], [1]], ALL * 4), (1, 1),
     False, (3, ("alike", (8, 1), (10, 0)))),
    (Web(1, [(0, 0, -1), (0, 0, 1)]), ([[0]] * 5, [[0], [], [0], [0]], []), (1, 1), True,
     (2, ("alike", (7, 0), (9, 0)))),
    (Web(1, [(0, 0, d) for d in range(-2, 3)]), ([[0]] * 3, [[], [0], [0], []], [[0]] * 3), (2, 1), True,
     (3, ("alike", (8, 0), (9, 0)))),
    (Web(1, [(0, 0, -2), (0, 0, 2)]), ([], [[0]], []), (1, 2), True, (8, ("alike", (0, 0), (4, 0)))),
    (Web(1, [(0, 0, -2), (0, 0, 1), (0, 0, 2)]), ([[0]] * 5, [[]], [[0]] * 4), (1, 1), False, (5, ("few", (7, 0)))),
]


def some_pieces(web, n, thick, chance):
    return [[j for j in range(web.places) if chance.random() < thick] for _ in range(n)]


def some_parts(web, chance):
    """Parts of a rule: heads and tails with all watchers, with some, and without pieces."""
    thick = chance.choice([0.6, 0.8, 1])
    parts = []
    for sizes in ((0, 2, 3, 5), (1, 1, 2, 3), (0, 2, 3, 5)):
        n = chance.choice(sizes)
        parts.append(some_pieces(web, n, chance.choice([thick, 1]), chance))
    return tuple(parts)


class Interface(unittest.TestCase):
    def test_signatures(self):
        self.assertEqual(str(inspect.signature(Rule)), "(head, block, tail)")
        self.assertEqual(str(inspect.signature(Rule.plan)), "(self, many)")
        self.assertEqual(str(inspect.signature(Rule.parts)), "(self)")
        self.assertEqual(str(inspect.signature(rule_fault)), "(web, rule, needs, *, ring=False)")

    def test_defined_where_they_are_listed(self):
        self.assertEqual((Rule.__module__, rule_fault.__module__), ("hearunlike.rules", "hearunlike.rules"))
        self.assertIs(vars(rules)["Rule"], Rule)
        for name in ("plan", "parts", "__eq__"):
            self.assertIn(name, vars(Rule))

    def test_by_name(self):
        rule = Rule(tail=[[1]], head=[[0]], block=[[]])
        self.assertEqual(rule.parts(), ([[0]], [[]], [[1]]))
        self.assertEqual(rule.plan(many=1), [[0], [], [1]])
        wanted = rule_fault(TWO, rule, (1, 1), ring=True)
        self.assertEqual(rule_fault(needs=(1, 1), rule=rule, web=TWO, ring=True), wanted)
        with self.assertRaises(TypeError):
            rule_fault(TWO, rule, (1, 1), True)


class MakeRules(unittest.TestCase):
    def test_parts(self):
        for head in ([], [[]], [[0], [1]]):
            for block in ([[]], [[0, 1]], [[1], [], [0]]):
                for tail in ([], [[0]], [[], []]):
                    parts = Rule(head, block, tail).parts()
                    self.assertIs(type(parts), tuple)
                    self.assertEqual(parts, (head, block, tail))

    def test_invalid_list(self):
        for value in NO_PIECES:
            raised(self, InvalidList, value, lambda: Rule(value, [[0]], []))
            raised(self, InvalidList, value, lambda: Rule([], value, []))
            raised(self, InvalidList, value, lambda: Rule([], [[0]], value))

    def test_block_without_pieces(self):
        raised(self, InvalidList, block := [], lambda: Rule([[0]], block, [[0]]))

    def test_first_of_the_three(self):
        raised(self, InvalidList, (), lambda: Rule((), None, "tail"))
        raised(self, InvalidList, None, lambda: Rule([], None, "tail"))
        raised(self, InvalidList, block := [], lambda: Rule([], block, "tail"))
        raised(self, InvalidList, "tail", lambda: Rule([], [[0]], "tail"))
        raised(self, InvalidList, head := [[2]], lambda: Rule(head, [], [[2]]))

    def test_lists_handed_in_are_changed_behind_the_call(self):
        piece = [0]
        head, block, tail = [piece], [piece, piece], [piece]
        rule = Rule(head, block, tail)
        piece.append(1)
        head.append([1])
        block.clear()
        tail[0] = None
        self.assertEqual(rule.parts(), ([[0]], [[0], [0]], [[0]]))
        self.assertEqual(rule.plan(1), [[0], [0], [0], [0]])

    def test_lists_handed_in_stay(self):
        given = ([[0], [1]], [[0, 1]], [[]])
        held = copy.deepcopy(given)
        rule = Rule(*given)
        rule.plan(3)
        rule_fault(TWO, rule, (1, 1))
        self.assertEqual(given, held)


class PlanOfARule(unittest.TestCase):
    def test_by_words(self):
        chance = random.Random(1)
        for _ in range(200):
            parts = some_parts(TWO, chance)
            for many in range(0 if parts[0] or parts[2] else 1, 8):
                self.assertEqual(Rule(*parts).plan(many), by_words.rule_plan(parts, many))

    def test_least_number(self):
        self.assertEqual(Rule([[0]], [[]], []).plan(0), [[0]])
        self.assertEqual(Rule([], [[]], [[1]]).plan(0), [[1]])
        self.assertEqual(Rule([[]], [[0]], [[1]]).plan(0), [[], [1]])
        self.assertEqual(Rule([], [[0]], []).plan(1), [[0]])
        raised(self, InvalidNumber, 0, lambda: Rule([], [[0]], []).plan(0))

    def test_invalid_number(self):
        for many in ODD + [-1, -10 ** 19, "3", [3], (3,), ONE]:
            for rule in (Rule([], [[0]], []), Rule([[0]], [[0]], [[0]]), Rule([[]], [[]], [])):
                raised(self, InvalidNumber, many, lambda: rule.plan(many))

    def test_returned_lists_are_changed(self):
        rule = Rule([[0]], [[], [0]], [[1]])
        plan = rule.plan(2)
        plan[0].append(1)
        plan[3].clear()
        plan.clear()
        for part in rule.parts():
            part[0].append(1)
            part.clear()
        self.assertEqual(rule.parts(), ([[0]], [[], [0]], [[1]]))
        self.assertEqual(rule.plan(2), [[0], [], [0], [], [0], [1]])

    def test_no_list_twice(self):
        rule = Rule([[0]] * 3, [[]] * 2, [[1]] * 2)
        found = lists_in(rule.plan(3)) + lists_in(rule.plan(3)) + lists_in(rule.parts()) + lists_in(rule.parts())
        self.assertEqual(len({id(x) for x in found}), len(found))
        self.assertEqual(len(found), 2 * 12 + 2 * 10)


class EqualRules(unittest.TestCase):
    def test_equal(self):
        self.assertTrue(Rule([[0]], [[1]], []) == Rule([[0]], [[1]], []))
        self.assertFalse(Rule([[0]], [[1]], []) != Rule([[0]], [[1]], []))

    def test_each_part_counts(self):
        rules_of = [Rule(*parts) for parts in itertools.product(([], [[0]], [[1]]), ([[0]], [[1]]), ([], [[0]], [[1]]))]
        for one, other in itertools.combinations(rules_of, 2):
            self.assertFalse(one == other)
            self.assertTrue(one != other)

    def test_same_plans_are_not_enough(self):
        self.assertFalse(Rule([[0]], [[0]], []) == Rule([], [[0]], [[0]]))
        self.assertFalse(Rule([], [[0]], []) == Rule([], [[0], [0]], []))

    def test_equal_to_no_other_object(self):
        rule = Rule([[0]], [[1]], [])
        for other in ODD + [1, rule.parts(), list(rule.parts()), rule.plan(1), ONE, InvalidRule(rule)]:
            self.assertIs(rule == other, False)
            self.assertIs(rule != other, True)


class RuleFault(unittest.TestCase):
    def check(self, web, parts, needs, ring, most):
        wanted = by_words.rule_fault(web, parts, needs, ring, most)
        self.assertEqual(rule_fault(web, Rule(*parts), needs, ring=ring), wanted, (web.hears(), parts, needs, ring))
        return wanted

    def test_by_words(self):
        chance = random.Random(2)
        seen = {"never": 0, "least": 0, "later": 0}
        webs = by_words.sample_webs()
        for k in range(800):
            web = webs[2 + k % (len(webs) - 2)]
            parts = some_parts(web, chance)
            needs = chance.choice([(1, 0), (1, 1), (1, 1), (1, 2), (2, 1), (2, 2), (2, 3), (3, 2)])
            found = self.check(web, parts, needs, chance.random() < 0.5, 14)
            least = 0 if parts[0] or parts[2] else 1
            seen["never" if found is None else "least" if found[0] == least else "later"] += 1
        for kind, many in seen.items():
            self.assertGreater(many, 20, kind)

    def test_all_short_rules_of_a_web(self):
        ends = [[], [[0]], [[0], [0]], [[0], [0], [0]]]
        blocks = [list(block) for n in (1, 2, 3) for block in itertools.product(([0], []), repeat=n)]
        for head, block, tail in itertools.product(ends, blocks, ends):
            for ring in (False, True):
                self.check(ONE, (head, block, tail), (1, 1), ring, 9)

    def test_all_needs(self):
        wide = Web(1, [(0, 0, d) for d in range(-2, 3)])
        for parts in (([[0]] * 4, [[0]], [[0]] * 4), ([[0]] * 5, [[0], []], [[0]] * 5), ([], [[0]], [])):
            for needs in ALL_NEEDS:
                for ring in (False, True):
                    self.check(wide, parts, needs, ring, 14)

    def test_late_faults(self):
        for web, parts, needs, ring, answer in LATE:
            self.assertEqual(self.check(web, parts, needs, ring, 12), answer)

    def test_never(self):
        self.assertIsNone(rule_fault(ONE, Rule([], [[0], []], [[0]]), (1, 1)))
        self.assertIsNone(rule_fault(ONE, Rule([[0], [0]], [[0]], [[0], [0]]), (1, 1), ring=True))

    def test_at_the_least_number(self):
        self.assertEqual(rule_fault(ONE, Rule([], [[0], [], []], []), (1, 1)), (1, ("few", (2, 0))))
        self.assertEqual(rule_fault(ONE, Rule([[0]], [[0]], [[0]]), (1, 1)), (0, ("alike", (0, 0), (1, 0))))
        self.assertEqual(rule_fault(ONE, Rule([], [[]], [[]]), (1, 1)), (0, ("few", (0, 0))))

    def test_at_a_later_number(self):
        self.assertEqual(rule_fault(ONE, Rule([[0]] * 3, [[]], [[0]] * 3), (1, 1)), (3, ("few", (4, 0))))

    def test_row_and_ring_differ(self):
        rule = Rule([[0]] * 5, [[0]], [[]])
        self.assertEqual(rule_fault(ONE, rule, (1, 1)), None)
        rule = Rule([[0], [0]], [[0]], [])
        self.assertEqual(rule_fault(ONE, rule, (1, 1)), (0, ("alike", (0, 0), (1, 0))))
        self.assertEqual(rule_fault(ONE, Rule([], [[0]] * 4, []), (1, 2)), (1, ("alike", (0, 0), (1, 0))))
        self.assertIsNone(rule_fault(ONE, Rule([], [[0]] * 4, []), (1, 2), ring=True))

    def test_new_result_each_time(self):
        rule = Rule([[0]] * 3, [[]], [[0]] * 3)
        self.assertEqual(rule_fault(ONE, rule, (1, 1)), rule_fault(ONE, rule, (1, 1)))
        self.assertEqual(rule.parts(), ([[0]] * 3, [[]], [[0]] * 3))

    def test_example(self):
        near = Web(1, [(0, 0, -1), (0, 0, 0), (0, 0, 1)])
        self.assertEqual([rule_fault(near, Rule([], [[0], []], [[0]]), (1, 1)),
                          rule_fault(near, Rule([], [[0], [], []], []), (1, 1)),
                          Rule([[0]], [[], [0]], []).plan(2)],
                         [None, (1, ('few', (2, 0))), [[0], [], [0], [], [0]]])


class WrongRules(unittest.TestCase):
    def test_invalid_web(self):
        for web in NO_WEBS + [Rule([], [[0]], [])]:
            raised(self, InvalidWeb, web, lambda: rule_fault(web, Rule([], [[0]], []), (1, 1)))

    def test_no_rules(self):
        for rule in ODD + [0, 1, [[0]], ([], [[0]], []), ONE, [Rule([], [[0]], [])], InvalidRule()]:
            raised(self, InvalidRule, rule, lambda: rule_fault(ONE, rule, (1, 1)))

    def test_places_that_are_not_of_the_web(self):
        for parts in (([[1]], [[0]], [[0]]), ([[0]], [[0], [0, 1]], [[0]]), ([[0]], [[0]], [[0], [1]])):
            rule = Rule(*parts)
            raised(self, InvalidRule, rule, lambda: rule_fault(ONE, rule, (1, 1)))
            rule_fault(TWO, rule, (1, 1))
        self.assertEqual(rule_fault(TWO, Rule([], [[0]], []), (1, 1)), (1, ("few", (0, 1))))

    def test_invalid_needs_and_ring(self):
        for rule in (Rule([], [[0], []], [[0]]), Rule([], [[]], [])):
            for needs in NO_NEEDS:
                raised(self, InvalidNeeds, needs, lambda: rule_fault(ONE, rule, needs))
            for ring in NO_RINGS:
                raised(self, InvalidNumber, ring, lambda: rule_fault(ONE, rule, (1, 1), ring=ring))

    def test_order_of_errors(self):
        rule = Rule([], [[1]], [])
        raised(self, InvalidWeb, None, lambda: rule_fault(None, rule, None, ring=None))
        raised(self, InvalidRule, rule, lambda: rule_fault(ONE, rule, None, ring=None))
        raised(self, InvalidRule, None, lambda: rule_fault(ONE, None, None, ring=None))
        raised(self, InvalidNeeds, None, lambda: rule_fault(TWO, rule, None, ring=None))
        raised(self, InvalidNumber, None, lambda: rule_fault(TWO, rule, (1, 1), ring=None))


class Limits(unittest.TestCase):
    def test_plans(self):
        part = [[0, 1]] * 20
        rule = within_seconds(self, Rule, part, part, part)
        self.assertEqual(len(within_seconds(self, rule.plan, 1000)), 20040)
        self.assertEqual(within_seconds(self, rule.parts), (part, part, part))
        self.assertIs(within_seconds(self, rule.__eq__, Rule(part, part, part)), True)

    def test_rule_fault(self):
        # With these needs a plan with all watchers is good, so that all numbers are tried.
        wide = Web(1, [(0, 0, d) for d in range(-2, 3)])
        full = Web(2, list(itertools.product((0, 1), (0, 1), (-1, 0, 1))))
        for web, needs in ((wide, (3, 1)), (full, (3, 0)), (full, (3, 6))):
            part = [list(range(web.places))] * 20
            for block in (part, part[:1], part[:7]):
                for ring in (False, True):
                    found = within_seconds(self, rule_fault, web, Rule(part, block, part), needs, ring=ring)
                    self.assertIs(found is None, needs != (3, 6))


if __name__ == "__main__":
    unittest.main()
