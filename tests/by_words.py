"""The answers of DOC.md, worked out slowly and straight from its words, and samples to try."""

import functools
import itertools
import math
import random
import re
import time

from hearunlike.webs import Web

NEAR = [(0, 0, -1), (0, 0, 0), (0, 0, 1)]

# Values of every kind that are no web, no list, no tuple and no whole number.
ODD = [None, True, False, "a", "", {}, {0: 1}, [[]], ((),)]

ALL_NEEDS = [(a, b) for a in (1, 2, 3) for b in range(2 * a + 1)]

# How long a call may take.
SECONDS = 5


def sample_webs():
    """Webs of one and of two places, among them those without any tuple and with all."""
    chance = random.Random(7)
    ones = [(0, 0, d) for d in range(-2, 3)]
    twos = list(itertools.product((0, 1), (0, 1), (-1, 0, 1)))
    webs = [Web(1, []), Web(2, []), Web(1, ones), Web(2, twos), Web(1, NEAR)]
    webs += [Web(1, [(0, 0, 0), (0, 0, 2)]), Web(1, [(0, 0, -2), (0, 0, 1)]), Web(1, [(0, 0, -1)])]
    for size in (3, 5, 6, 7, 8, 9):
        webs.append(Web(2, chance.sample(twos, size)))
    return webs


def all_pieces(web):
    return [[0], []] if web.places == 1 else [[], [0], [0, 1], [1]]


def all_plans(web, n):
    return [list(plan) for plan in itertools.product(all_pieces(web), repeat=n)]


def some_plans(web, n, many, chance):
    """Plans of n pieces, few or many watchers in them, the full one first."""
    plans = [[list(range(web.places)) for _ in range(n)]]
    for k in range(many):
        thick = (1 + k % 4) * 0.25
        plans.append([[j for j in range(web.places) if chance.random() < thick] for _ in range(n)])
    return plans


def sample_cases(longest, many):
    """Tuples (web, plan, ring): strips of all lengths up to the longest."""
    chance = random.Random(11)
    for web in sample_webs():
        for n in range(1, longest + 1):
            for plan in some_plans(web, n, many, chance):
                for ring in (False, True):
                    yield web, plan, ring


def spots(web, n):
    return [(t, j) for t in range(n) for j in range(web.places)]


def leads(web, n, watcher, spot, ring):
    """Whether some tuple of the web leads from a watcher to a spot."""
    gap = spot[0] - watcher[0]
    for i, j, d in web.hears():
        if i == watcher[1] and j == spot[1] and (d == gap or ring and (d - gap) % n == 0):
            return True
    return False


def watchers(plan):
    return [(t, i) for t in range(len(plan)) for i in (0, 1) if i in plan[t]]


def hearers(web, plan, spot, ring):
    return [w for w in watchers(plan) if leads(web, len(plan), w, spot, ring)]


def fault(web, plan, needs, ring):
    places = spots(web, len(plan))
    heard = {spot: set(hearers(web, plan, spot, ring)) for spot in places}
    for spot in places:
        if len(heard[spot]) < needs[0]:
            return ("few", spot)
    for one, other in itertools.combinations(places, 2):
        if len(heard[one] ^ heard[other]) < needs[1]:
            return ("alike", one, other)
    return None


def without(plan, watcher):
    return [[j for j in piece if (t, j) != watcher] for t, piece in enumerate(plan)]


def idle(web, plan, needs, ring):
    return [w for w in watchers(plan) if fault(web, without(plan, w), needs, ring) is None]


def vital(web, n, needs, ring):
    good = [plan for plan in all_plans(web, n) if fault(web, plan, needs, ring) is None]
    if not good:
        return None
    return [spot for spot in spots(web, n) if all(spot in watchers(plan) for plan in good)]


def where(web, plan, heard, lies, ring):
    found = []
    for spot in spots(web, len(plan)):
        true = hearers(web, plan, spot, ring)
        if len([w for w in watchers(plan) if (w in true) != (w in heard)]) <= lies:
            found.append(spot)
    return found


def two(web, plan, heard, ring):
    found = []
    for one, other in itertools.combinations(spots(web, len(plan)), 2):
        either = hearers(web, plan, one, ring) + hearers(web, plan, other, ring)
        if all((w in heard) == (w in either) for w in watchers(plan)):
            found.append((one, other))
    return found


@functools.lru_cache(maxsize=None)
def asked(places, hears, n, needs, ring):
    """Tuples (watchers, least) for the spots, and for the pairs of spots, of a strip; watchers as bits."""
    web = Web(places, list(hears))
    bits = {spot: 1 << k for k, spot in enumerate(spots(web, n))}
    heard = [sum(bits[w] for w in bits if leads(web, n, w, spot, ring)) for spot in bits]
    pairs = itertools.combinations(heard, 2)
    return [(mask, needs[0]) for mask in heard] + [(one ^ other, needs[1]) for one, other in pairs]


def bits_of(web, plan):
    return sum(1 << (t * web.places + i) for t, i in watchers(plan))


def is_good(web, plan, needs, ring=False):
    """Whether fault tells nothing, but fast enough for many plans."""
    sits = bits_of(web, plan)
    rows = asked(web.places, tuple(web.hears()), len(plan), needs, ring)
    return all((sits & mask).bit_count() >= least for mask, least in rows)


@functools.lru_cache(maxsize=None)
def plans_in_order(places, n):
    """All plans of n pieces in order, each with its watchers as bits."""
    web = Web(places, [])
    return [(plan, bits_of(web, plan)) for plan in sorted(all_plans(web, n))]


def good_plans(web, n, needs, ring):
    """All good plans of n pieces in order, by going through all plans."""
    found = plans_in_order(web.places, n)
    for mask, least in asked(web.places, tuple(web.hears()), n, needs, ring):
        found = [(plan, sits) for plan, sits in found if (sits & mask).bit_count() >= least]
    return [[list(piece) for piece in plan] for plan, _ in found]


def price(prices, plan):
    return sum(prices[i] for _, i in watchers(plan))


def cheapest(plans, prices):
    """The tuple (least price, plans with this price) of a list of plans."""
    least = min([price(prices, plan) for plan in plans], default=None)
    return least, [plan for plan in plans if price(prices, plan) == least]


def follows(value, earlier, rise):
    return value is None if earlier is None else value == earlier + rise


def lengths(values):
    """The tuple (head, period, rise) of values that are told at least as far as four heads and periods together."""
    for period in range(1, len(values)):
        rise = 0 if values[-1] is None else values[-1] - values[-1 - period] if values[-1 - period] is not None else 0
        end = len(values)
        while end > period and follows(values[end - 1], values[end - 1 - period], rise):
            end -= 1
        if end <= len(values) // 2:
            return values[:end], period, rise
    return None


def unlike(values):
    """The values of a list, each once."""
    found = []
    for value in values:
        if value not in found:
            found.append(value)
    return found


def full(web, n):
    return [list(range(web.places)) for _ in range(n)]


def standings(web, needs):
    """All standings in order, looked at in rings with as many full pieces."""
    many = 4 * web.reach
    return [plan for plan in sorted(all_plans(web, many)) if is_good(web, plan + full(web, many), needs, True)]


def steps(web, needs):
    """All tuples (number of a standing, piece, number of the standing to which it leads)."""
    return steps_of(web.places, tuple(web.hears()), needs)


@functools.lru_cache(maxsize=None)
def steps_of(places, hears, needs):
    web = Web(places, list(hears))
    told = standings(web, needs)
    found = []
    for k, standing in enumerate(told):
        for piece in sorted(all_pieces(web)):
            if is_good(web, standing + [piece] + full(web, 4 * web.reach), needs, True):
                found.append((k, piece, told.index((standing + [piece])[1:])))
    return found


def is_good_for_ever(web, block, needs):
    """Whether a block repeated for ever is a good endless plan: a ring of it that is long enough tells."""
    return is_good(web, block * (4 * web.reach + 1), needs, True)


def is_whole(value):
    return type(value) is int


def is_rate_paper(web, needs, prices, told, paper):
    if type(told) is not tuple or len(told) != 2 or not all(is_whole(x) for x in told):
        return False
    top, under = told
    if under < 1 or math.gcd(top, under) != 1 or type(paper) is not tuple or len(paper) != 2:
        return False
    block, worths = paper
    if type(block) is not list or not block or not all(piece in all_pieces(web) for piece in block):
        return False
    if any(not is_whole(i) for piece in block for i in piece) or not is_good_for_ever(web, block, needs):
        return False
    if under * price(prices, block) != top * len(block):
        return False
    if type(worths) is not list or len(worths) != len(standings(web, needs)) or not all(map(is_whole, worths)):
        return False
    return all(worths[after] <= worths[k] + under * price(prices, [piece]) - top
               for k, piece, after in steps(web, needs))


def mended(web, plan, needs, prices, ring):
    good = [other for other in good_plans(web, len(plan), needs, ring) if set(watchers(plan)) <= set(watchers(other))]
    return min(cheapest(good, prices)[1], default=None)


def parted(web, other, needs, most):
    """What parts two webs in rows of up to so many pieces."""
    for n in range(1, most + 1):
        good = [good_plans(one, n, needs, False) for one in (web, other)]
        found = sorted([(plan, k) for k in (0, 1) for plan in good[k] if plan not in good[1 - k]])
        if found:
            return found[0]
    return None


def rule_plan(parts, many):
    head, block, tail = parts
    plan = [piece for piece in head]
    for _ in range(many):
        plan += block
    return plan + tail


def rule_fault(web, parts, needs, ring, most):
    """The least number up to the most whose plan is not good, with its fault; it tries them one by one."""
    for many in range(most + 1):
        plan = rule_plan(parts, many)
        if plan:
            found = fault(web, plan, needs, ring)
            if found is not None:
                return (many, found)
    return None


def is_text(text, places):
    return re.fullmatch("[ \\n]*(?:[oO.]{%d}[ \\n]*)+" % places, text) is not None


def text_plan(text, places):
    """The plan of a value that is a text."""
    signs = [sign for sign in text if sign in "oO."]
    return [[j for j in range(places) if signs[k + j] != "."] for k in range(0, len(signs), places)]


def lists_in(value):
    """All list objects in a result, however deep."""
    if not isinstance(value, (list, tuple)):
        return []
    found = [value] if isinstance(value, list) else []
    return found + [deep for item in value for deep in lists_in(item)]


def within_seconds(case, call, *values, **more):
    """Check that a call ends within seconds, and return what it returns."""
    begin = time.perf_counter()
    found = call(*values, **more)
    case.assertLess(time.perf_counter() - begin, SECONDS, call.__name__)
    return found


def raised(case, kind, value, call):
    """Check that a call raises this very error, with this very value in its field."""
    with case.assertRaises(kind) as caught:
        call()
    case.assertIs(type(caught.exception), kind)
    case.assertIs(caught.exception.value, value)
