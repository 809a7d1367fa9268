"""The answers of DOC.md, worked out slowly and straight from its words, and samples to try."""

import itertools
import random
import re
import time

from hearunlike.webs import Web

NEAR = [(0, 0, -1), (0, 0, 0), (0, 0, 1)]

# Values of every kind that are no web, no list, no tuple and no whole number.
ODD = [None, True, False, "a", "", {}, {0: 1}, [[]], ((),)]

ALL_NEEDS = [(a, b) for a in (1, 2, 3) for b in range(2 * a + 1)]

# How long a call may take.
SECONDS = 5


def sample_webs():
    """Webs of one and of two places, among them those without any tuple and with all."""
    chance = random.Random(7)
    ones = [(0, 0, d) for d in range(-2, 3)]
    twos = list(itertools.product((0, 1), (0, 1), (-1, 0, 1)))
    webs = [Web(1, []), Web(2, []), Web(1, ones), Web(2, twos), Web(1, NEAR)]
    webs += [Web(1, [(0, 0, 0), (0, 0, 2)]), Web(1, [(0, 0, -2), (0, 0, 1)]), Web(1, [(0, 0, -1)])]
    for size in (3, 5, 6, 7, 8, 9):
        webs.append(Web(2, chance.sample(twos, size)))
    return webs


def all_pieces(web):
    return [[0], []] if web.places == 1 else [[], [0], [0, 1], [1]]


def all_plans(web, n):
    return [list(plan) for plan in itertools.product(all_pieces(web), repeat=n)]


def some_plans(web, n, many, chance):
    """Plans of n pieces, few or many watchers in them, the full one first."""
    plans = [[list(range(web.places)) for _ in range(n)]]
    for k in range(many):
        thick = (1 + k % 4) * 0.25
        plans.append([[j for j in range(web.places) if chance.random() < thick] for _ in range(n)])
    return plans


def sample_cases(longest, many):
    """Tuples (web, plan, ring): strips of all lengths up to the longest."""
    chance = random.Random(11)
    for web in sample_webs():
        for n in range(1, longest + 1):
            for plan in some_plans(web, n, many, chance):
                for ring in (False, True):
                    yield web, plan, ring


def spots(web, n):
    return [(t, j) for t in range(n) for j in range(web.places)]


def leads(web, n, watcher, spot, ring):
    """Whether some tuple of the web leads from a watcher to a spot."""
    gap = spot[0] - watcher[0]
    for i, j, d in web.hears():
        if i == watcher[1] and j == spot[1] and (d == gap or ring and (d - gap) % n == 0):
            return True
    return False


def watchers(plan):
    return [(t, i) for t in range(len(plan)) for i in (0, 1) if i in plan[t]]


def hearers(web, plan, spot, ring):
    return [w for w in watchers(plan) if leads(web, len(plan), w, spot, ring)]


def fault(web, plan, needs, ring):
    places = spots(web, len(plan))
    heard = {spot: set(hearers(web, plan, spot, ring)) for spot in places}
    for spot in places:
        if len(heard[spot]) < needs[0]:
            return ("few", spot)
    for one, other in itertools.combinations(places, 2):
        if len(heard[one] ^ heard[other]) < needs[1]:
            return ("alike", one, other)
    return None


def without(plan, watcher):
    return [[j for j in piece if (t, j) != watcher] for t, piece in enumerate(plan)]


def idle(web, plan, needs, ring):
    return [w for w in watchers(plan) if fault(web, without(plan, w), needs, ring) is None]


def vital(web, n, needs, ring):
    good = [plan for plan in all_plans(web, n) if fault(web, plan, needs, ring) is None]
    if not good:
        return None
    return [spot for spot in spots(web, n) if all(spot in watchers(plan) for plan in good)]


def where(web, plan, heard, lies, ring):
    found = []
    for spot in spots(web, len(plan)):
        true = hearers(web, plan, spot, ring)
        if len([w for w in watchers(plan) if (w in true) != (w in heard)]) <= lies:
            found.append(spot)
    return found


def two(web, plan, heard, ring):
    found = []
    for one, other in itertools.combinations(spots(web, len(plan)), 2):
        either = hearers(web, plan, one, ring) + hearers(web, plan, other, ring)
        if all((w in heard) == (w in either) for w in watchers(plan)):
            found.append((one, other))
    return found


def rule_plan(parts, many):
    head, block, tail = parts
    plan = [piece for piece in head]
    for _ in range(many):
        plan += block
    return plan + tail


def rule_fault(web, parts, needs, ring, most):
    """The least number up to the most whose plan is not good, with its fault; it tries them one by one."""
    for many in range(most + 1):
        plan = rule_plan(parts, many)
        if plan:
            found = fault(web, plan, needs, ring)
            if found is not None:
                return (many, found)
    return None


def is_text(text, places):
    return re.fullmatch("[ \\n]*(?:[oO.]{%d}[ \\n]*)+" % places, text) is not None


def text_plan(text, places):
    """The plan of a value that is a text."""
    signs = [sign for sign in text if sign in "oO."]
    return [[j for j in range(places) if signs[k + j] != "."] for k in range(0, len(signs), places)]


def lists_in(value):
    """All list objects in a result, however deep."""
    if not isinstance(value, (list, tuple)):
        return []
    found = [value] if isinstance(value, list) else []
    return found + [deep for item in value for deep in lists_in(item)]


def within_seconds(case, call, *values, **more):
    """Check that a call ends within seconds, and return what it returns."""
    begin = time.perf_counter()
    found = call(*values, **more)
    case.assertLess(time.perf_counter() - begin, SECONDS, call.__name__)
    return found


def raised(case, kind, value, call):
    """Check that a call raises this very error, with this very value in its field."""
    with case.assertRaises(kind) as caught:
        call()
    case.assertIs(type(caught.exception), kind)
    case.assertIs(caught.exception.value, value)
