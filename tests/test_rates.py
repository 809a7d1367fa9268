"""Promises [47] and [48], with [1] to [3] for them: what good endless plans cost at the least, and papers for it."""

import copy
import itertools
import math
import random
import unittest

import by_words
from by_words import ALL_NEEDS, ODD, lists_in, within_seconds
from hearunlike.lengths import is_rate_paper, lengths, rate, rate_paper, standings
from hearunlike.standings import least
from hearunlike.webs import Web
from test_lengths import FEW_NEEDS, SMALL
from test_plans import ONE, TWO
from test_standings import FULL, LATE, RICH, ROOK, SKEW, WEBS, WIDE, refused


def cases(webs):
    """Tuples (web, needs, prices) for webs one after the other."""
    chance = random.Random(1)
    for k, web in enumerate(webs):
        for needs in [(1, 1), FEW_NEEDS[k % len(FEW_NEEDS)]]:
            yield web, needs, [chance.randint(0, 9) for _ in range(web.places)]


def blocks_of(web, most):
    for n in range(1, most + 1):
        for plan, _ in by_words.plans_in_order(web.places, n):
            yield plan


class Rate(unittest.TestCase):
    def check_blocks(self, web, needs, prices, most):
        """Check the rate against all blocks up to a number of pieces; return whether one of them has it."""
        good = [block for block in blocks_of(web, most) if by_words.is_good_for_ever(web, block, needs)]
        found = rate(web, needs, prices)
        if found is None:
            self.assertEqual(good, [])
            return True
        top, under = found
        self.assertEqual(math.gcd(top, under), 1)
        self.assertGreaterEqual(under, 1)
        gaps = [under * by_words.price(prices, block) - top * len(block) for block in good]
        self.assertGreaterEqual(min(gaps), 0, (web.hears(), needs, prices))
        return min(gaps) == 0

    def test_blocks_gone_through_one_by_one(self):
        hit = 0
        for web in SMALL:
            for needs in ((1, 0), (1, 1), (1, 2), (2, 1)):
                # No way around is longer than there are standings; here they are short.
                self.assertTrue(self.check_blocks(web, needs, [3], 8))
        for web, needs, prices in cases([ROOK, RICH, SKEW, WIDE] + WEBS[:8]):
            hit += self.check_blocks(web, needs, prices, 8 if web.places == 1 else 4)
        self.assertGreater(hit, 12)

    def test_least_of_long_rows(self):
        for web, needs, prices in cases(WEBS + [LATE]):
            found = rate(web, needs, prices)
            many = sum(prices)
            for n in (9, 23, 60, 1000, 10 ** 15):
                cost = least(web, needs, prices, n)
                if found is None:
                    self.assertIsNone(cost)
                elif cost is not None:
                    top, under = found
                    self.assertLessEqual(abs(under * cost - top * n), under * 8 * web.reach * many)
            head, period, rise = lengths(web, needs, prices)
            if head[-1] is not None:
                self.assertEqual(rise * found[1], period * found[0])

    def test_least_of_rings(self):
        for web in SMALL:
            for needs in FEW_NEEDS:
                found = rate(web, needs, [5])
                for n in (5, 6, 7, 20, 1001, 10 ** 15):
                    cost = least(web, needs, [5], n, ring=True)
                    if found is None:
                        self.assertIsNone(cost)
                    else:
                        self.assertLessEqual(found[0] * n, found[1] * cost)
                        self.assertLessEqual(found[1] * cost, found[0] * n + found[1] * 20)

    def test_lowest_terms(self):
        for prices, wanted in (([0], (0, 1)), ([1], (1, 2)), ([2], (1, 1)), ([9], (9, 2)), ([1000], (500, 1))):
            self.assertEqual(rate(ONE, (1, 1), prices), wanted)
        self.assertEqual(rate(Web(2, [(0, 0, 0), (0, 1, 0)]), (1, 0), [4, 0]), (4, 1))
        self.assertEqual(rate(ROOK, (1, 1), [2]), (4, 5))

    def test_none(self):
        for web, needs in ((Web(1, []), (1, 0)), (FULL, (1, 1)), (ONE, (2, 4)), (Web(2, []), (3, 6))):
            for prices in ([0, 0], [3, 9]):
                self.assertIsNone(rate(web, needs, prices[:web.places]))
                self.assertIsNone(rate_paper(web, needs, prices[:web.places]))

    def test_kinds_of_results(self):
        for web in (ONE, RICH):
            found = rate(web, (1, 1), [2, 3][:web.places])
            self.assertIs(type(found), tuple)
            self.assertEqual([type(x) for x in found], [int, int])


class Papers(unittest.TestCase):
    def check(self, web, needs, prices, told, paper, wanted=None):
        """Check is_rate_paper against the words."""
        found = is_rate_paper(web, needs, prices, told, paper)
        self.assertIs(type(found), bool)
        told_so = by_words.is_rate_paper(web, needs, prices, told, paper)
        self.assertEqual(found, told_so, (web.hears(), needs, prices, told, paper))
        if wanted is not None:
            self.assertIs(found, wanted, (told, paper))
        return found

    def test_made_papers_are_accepted(self):
        many = 0
        for web, needs, prices in cases(WEBS + SMALL + [LATE]):
            told, paper = rate(web, needs, prices), rate_paper(web, needs, prices)
            self.assertEqual(told is None, paper is None)
            if told is not None:
                self.check(web, needs, prices, told, paper, True)
                many += 1
        self.assertGreater(many, 20)

    def test_all_needs(self):
        for web in (ONE, WIDE, RICH):
            for needs in ALL_NEEDS:
                told = rate(web, needs, [4, 7][:web.places])
                if told is not None:
                    self.check(web, needs, [4, 7][:web.places], told, rate_paper(web, needs, [4, 7][:web.places]), True)

    def test_another_rate_is_refused(self):
        for web, needs, prices in cases([ONE, RICH, ROOK, SKEW]):
            told, paper = rate(web, needs, prices), rate_paper(web, needs, prices)
            if told is None:
                continue
            top, under = told
            for other in ((top + 1, under), (top - 1, under), (top, under + 1), (2 * top, 2 * under), (-top, -under),
                          (top, 0), (0, 1), (1, 0), (-1, 1), (top, -under), (top, under, 1), (top,), (), [top, under],
                          (float(top), under), (None, under), (top, None), ((top,), under), ("1", "2")):
                self.check(web, needs, prices, other, paper, None if other == told else False)
            for other in ODD + [0, 1, ONE, [told], {told: told}, (told, told)]:
                self.check(web, needs, prices, other, paper, False)

    def test_boolean_for_a_number_of_the_rate(self):
        only = Web(1, [(0, 0, 0)])
        for prices, told in (([1], (1, 1)), ([0], (0, 1))):
            paper = rate_paper(only, (1, 1), prices)
            self.assertEqual(rate(only, (1, 1), prices), told)
            self.check(only, (1, 1), prices, told, paper, True)
            self.check(only, (1, 1), prices, (bool(told[0]), 1), paper, False)
            self.check(only, (1, 1), prices, (told[0], True), paper, False)

    def test_wrong_blocks(self):
        for web, needs, prices in cases([ONE, RICH, ROOK, SKEW, WEBS[8]]):
            told, paper = rate(web, needs, prices), rate_paper(web, needs, prices)
            if told is None:
                continue
            block, worths = paper
            seen = {False: 0, True: 0}
            others = [block[1:], block[:-1], block + [[]], block + [block[0]], block * 2, block[::-1]]
            for t in range(len(block)):
                others += [block[:t] + [piece] + block[t + 1:] for piece in by_words.all_pieces(web)]
                others.append(block[:t] + [tuple(block[t])] + block[t + 1:])
                others.append(block[:t] + [None] + block[t + 1:])
            for other in others:
                seen[self.check(web, needs, prices, told, (other, worths))] += 1
            self.check(web, needs, prices, told, (block * 2, worths), True)
            self.assertGreater(seen[False], 4)
            for other in ODD + [0, [], tuple(block), [block], [[2]], [[-1]], [[0, 0]], [[True]], [[False]], [[1, 0]],
                                [[None]], [["0"]], ONE, [ONE]]:
                self.check(web, needs, prices, told, (other, worths), False)

    def test_place_1_takes_two_places(self):
        only = Web(1, [(0, 0, 0)])
        block, worths = rate_paper(only, (1, 1), [0])
        self.check(only, (1, 1), [0], (0, 1), ([[0, 1]], worths), False)
        self.check(only, (1, 1), [0], (0, 1), ([[1]], worths), False)

    def test_longer_and_dearer_blocks(self):
        told, (block, worths) = (1, 2), rate_paper(ONE, (1, 1), [1])
        self.assertIs(is_rate_paper(ONE, (1, 1), [1], told, ([[0], []] * 300, worths)), True)
        self.assertIs(is_rate_paper(ONE, (1, 1), [1], told, ([[0], []] * 300 + [[]], worths)), False)
        self.check(ONE, (1, 1), [1], told, ([[], [0]] * 7, worths), True)
        self.check(ONE, (1, 1), [1], told, ([[0], []] * 7 + [[0]], worths), False)
        self.check(ONE, (1, 1), [1], told, ([[0]], worths), False)
        self.check(ONE, (1, 1), [1], (1, 1), ([[0]], worths), False)

    def test_wrong_worths(self):
        chance = random.Random(3)
        seen = {False: 0, True: 0}
        for web, needs, prices in cases([ONE, RICH, ROOK, SKEW, WEBS[8]]):
            told, paper = rate(web, needs, prices), rate_paper(web, needs, prices)
            if told is None:
                continue
            block, worths = paper
            for k in chance.sample(range(len(worths)), min(8, len(worths))):
                for gap in (-1000, -1, 1, 1000):
                    other = worths[:k] + [worths[k] + gap] + worths[k + 1:]
                    seen[self.check(web, needs, prices, told, (block, other))] += 1
                for odd in (None, "0", [worths[k]], (worths[k],), float(worths[k])):
                    self.check(web, needs, prices, told, (block, worths[:k] + [odd] + worths[k + 1:]), False)
            self.check(web, needs, prices, told, (block, [worth + 10 ** 25 for worth in worths]), True)
            for other in ODD + [0, [], worths + [worths[-1]], worths[:-1], worths[1:], worths * 2, tuple(worths), ONE,
                                [worths], {0: worths}, block]:
                self.check(web, needs, prices, told, (block, other), False)
        self.assertGreater(min(seen.values()), 30)

    def test_boolean_for_a_worth(self):
        only = Web(1, [(0, 0, 0)])
        for worth in (0, 1):
            self.check(only, (1, 1), [5], (5, 1), ([[0]], [worth]), True)
            self.check(only, (1, 1), [5], (5, 1), ([[0]], [bool(worth)]), False)
        self.check(only, (1, 1), [5], (5, 1), ([[False]], [0]), False)

    def test_worths_for_a_rate_that_is_too_high(self):
        # No worths are small enough for a rate above the right one; for one below it no block is cheap enough.
        for told in ((1, 1), (2, 3), (1, 3), (0, 1)):
            for worths in itertools.product((-1, 0, 1), repeat=3):
                for block in ([[0]], [[0], []], [[0], [0], []]):
                    self.check(ONE, (1, 1), [1], told, (block, list(worths) + [0] * (len(standings(ONE, (1, 1))) - 3)),
                               False)

    def test_papers_of_any_kind(self):
        told, paper = rate(ONE, (1, 1), [1]), rate_paper(ONE, (1, 1), [1])
        deep = []
        for _ in range(18):
            deep = [deep]
        for other in ODD + [0, 1, list(paper), paper + (None,), paper[:1], paper[::-1], (paper, paper), (None, None),
                            ONE, (ONE, ONE), {0: paper}, "paper", deep, (deep, deep), (paper[0], deep),
                            (deep, paper[1])]:
            self.check(ONE, (1, 1), [1], told, other, False)
        for other in (deep, (deep, 1), (1, deep), (1, {}), ({}, 1), (ONE, TWO)):
            self.check(ONE, (1, 1), [1], other, paper, False)

    def test_no_standings(self):
        for web, needs in ((FULL, (1, 1)), (Web(1, []), (1, 0)), (Web(2, []), (1, 0))):
            for told in ((0, 1), (1, 1), None):
                for paper in (([[0]], []), ([], []), ([[]], []), (None, []), None):
                    self.check(web, needs, [0, 0][:web.places], told, paper, False)

    def test_another_question(self):
        paper = rate_paper(ONE, (1, 1), [1])
        self.check(ONE, (1, 1), [1], (1, 2), paper, True)
        self.check(ONE, (1, 1), [2], (1, 2), paper, False)
        self.check(ONE, (1, 2), [1], (1, 2), paper, False)
        self.check(ONE, (1, 0), [1], (1, 2), paper, False)
        self.check(Web(1, [(0, 0, -1), (0, 0, 1)]), (1, 1), [1], (1, 2), paper, False)

    def test_kinds_of_results(self):
        for web in (ONE, RICH):
            block, worths = paper = rate_paper(web, (1, 1), [2, 3][:web.places])
            self.assertEqual([type(x) for x in (paper, block, worths)], [tuple, list, list])
            self.assertEqual({type(worth) for worth in worths}, {int})
            self.assertEqual(len(worths), len(standings(web, (1, 1))))

    def test_arguments_stay(self):
        prices, told, paper = [2, 3], rate(RICH, (1, 1), [2, 3]), rate_paper(RICH, (1, 1), [2, 3])
        held = copy.deepcopy((prices, told, paper))
        self.assertIs(is_rate_paper(RICH, (1, 1), prices, told, paper), True)
        self.assertIs(is_rate_paper(RICH, (1, 2), prices, told, paper), False)
        self.assertEqual((prices, told, paper), held)

    def test_new_lists(self):
        first, second = rate_paper(RICH, (1, 1), [2, 3]), rate_paper(RICH, (1, 1), [2, 3])
        found = lists_in(first) + lists_in(second)
        self.assertEqual(len({id(x) for x in found}), len(found))
        held = copy.deepcopy(second)
        for x in lists_in(first):
            x.append("changed")
        self.assertEqual((second, rate_paper(RICH, (1, 1), [2, 3])), (held, held))


class WrongArguments(unittest.TestCase):
    calls = [rate, rate_paper, lambda *told: is_rate_paper(*told, (1, 2), ([[0]], [])),
             lambda *told: is_rate_paper(*told, None, None)]

    def test_errors(self):
        for call in self.calls:
            refused(self, call)


class Limits(unittest.TestCase):
    def test_rates_and_papers(self):
        for web in WEBS + [LATE]:
            for needs in ((1, 0), (1, 1), (2, 1), (3, 6)):
                prices = [9, 8][:web.places]
                told = within_seconds(self, rate, web, needs, prices)
                paper = within_seconds(self, rate_paper, web, needs, prices)
                accepted = within_seconds(self, is_rate_paper, web, needs, prices, told, paper)
                self.assertIs(accepted, told is not None)

    def test_a_long_paper(self):
        block, worths = rate_paper(RICH, (1, 1), [9, 8])
        told = rate(RICH, (1, 1), [9, 8])
        self.assertIs(within_seconds(self, is_rate_paper, RICH, (1, 1), [9, 8], told, (block * 2000, worths)), True)


if __name__ == "__main__":
    unittest.main()
