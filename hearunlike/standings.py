"""Prices of plans, the least price of a good plan for a strip, and the cheapest plans, which have this price."""

from hearunlike.checks import check_count, check_prices, check_ring, is_whole
from hearunlike.courses import far_price
from hearunlike.errors import InvalidNumber
from hearunlike.plans import check_needs, check_plan
from hearunlike.walks import all_allowed, cheapest
from hearunlike.webs import check_web
from hearunlike.windows import plan_of

# Up to here strips are gone through piece by piece; beyond it prices are told by how they repeat.
SHORT = 60


def price(web, prices, plan):
    """Return the sum of the prices of the watchers of a plan."""
    check_web(web)
    check_prices(prices, web.places)
    check_plan(web, plan)
    return sum([prices[place] for piece in plan for place in piece])


def least(web, needs, prices, n, *, ring=False):
    """Return the least price of a good plan for a strip of n pieces, or None if there is no good plan."""
    check_strip(web, needs, prices, n, ring)
    if n > SHORT:
        return far_price(web, needs, prices, n, ring)
    return cheapest(web, needs, prices, all_allowed(web, n), ring).price


def least_plan(web, needs, prices, n, *, ring=False):
    """Return the first of the cheapest plans in order, or None if there is no good plan."""
    check_strip(web, needs, prices, n, ring)
    found = cheapest(web, needs, prices, all_allowed(web, n), ring)
    return None if found.many == 0 else plan_of(found.numbers_at(0), web.places)


def how_many(web, needs, prices, n, *, ring=False):
    """Return how many cheapest plans there are."""
    check_strip(web, needs, prices, n, ring)
    return cheapest(web, needs, prices, all_allowed(web, n), ring).many


def plan_at(web, needs, prices, n, at, *, ring=False):
    """Return the cheapest plan that has this number among them in order."""
    check_strip(web, needs, prices, n, ring)
    # What can't be a number of a plan is refused before the plans are counted, however long the strip may be.
    if not is_whole(at) or at < 0:
        raise InvalidNumber(at)
    found = cheapest(web, needs, prices, all_allowed(web, n), ring)
    if at >= found.many:
        raise InvalidNumber(at)
    return plan_of(found.numbers_at(at), web.places)


def check_question(web, needs, prices):
    """Raise the error of the first of the arguments that doesn't fit."""
    check_web(web)
    check_needs(needs)
    check_prices(prices, web.places)


def check_strip(web, needs, prices, n, ring):
    """Raise the error of the first of the arguments that doesn't fit."""
    check_question(web, needs, prices)
    check_count(n)
    check_ring(ring)
