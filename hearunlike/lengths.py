"""Least prices for all lengths at once, standings, and what good endless plans cost at the least."""

from math import gcd

from hearunlike.checks import check_ring, is_whole
from hearunlike.courses import least_prices, price_beyond
from hearunlike.plans import are_pieces, check_needs
from hearunlike.rates import Steps, least_worths, lowest_mean, tight_loop
from hearunlike.standings import check_question
from hearunlike.walks import costs_of
from hearunlike.webs import check_web
from hearunlike.windows import numbers_of, plan_of


def lengths(web, needs, prices, *, ring=False):
    """Return the tuple (head, period, rise) of the least prices for all numbers of pieces."""
    check_question(web, needs, prices)
    check_ring(ring)
    values, many, gain = least_prices(web, needs, prices, ring, None)
    # Whatever comes beyond the values is seen in so many more of them.
    beyond = [price_beyond(values, many, gain, len(values) + k) for k in range(1, 2 * many + 1)]
    period, rise = least_period(beyond, many, gain)
    end = len(values)
    while end > period and follows(values[end - 1], values[end - 1 - period], rise):
        end = end - 1
    return (values[:end], period, rise)


def standings(web, needs):
    """Return the list of all standings in order."""
    check_web(web)
    check_needs(needs)
    steps = Steps(web, needs)
    return [plan_of(steps.windows.pieces_of(state), web.places) for state in steps.states]


def rate(web, needs, prices):
    """Return the least price per piece of good endless plans as (top, under), or None if there are none."""
    check_question(web, needs, prices)
    steps = Steps(web, needs)
    return lowest_rate(steps, prices)


def rate_paper(web, needs, prices):
    """Return a paper (block, worths) that no good endless plan is cheaper than the rate, or None if there are none."""
    check_question(web, needs, prices)
    steps = Steps(web, needs)
    told = lowest_rate(steps, prices)
    if told is None:
        return None
    weights = step_weights(steps, prices, told)
    worths = least_worths(steps.ahead, weights)
    loop = tight_loop(steps.ahead, weights, worths)
    return (plan_of([steps.last_piece(number) for number in loop], web.places), worths)


def is_rate_paper(web, needs, prices, told, paper):
    """Return whether a value tells a rate, and another one is a paper for it."""
    check_question(web, needs, prices)
    if not is_quotient(told) or not isinstance(paper, tuple) or len(paper) != 2:
        return False
    block, worths = paper
    steps = Steps(web, needs)
    return is_block(steps, prices, told, block) and are_worths(steps, prices, told, worths)


def follows(value, earlier, rise):
    """Return whether a least price is an earlier one plus a rise, or None as that is."""
    if earlier is None:
        return value is None
    return value is not None and value == earlier + rise


def least_period(values, many, gain):
    """Return the least (period, rise) of values that go on by `many` and `gain` and are told twice as far."""
    if all([value is None for value in values]):
        return (1, 0)
    for period in range(1, many):
        # A period divides each greater one, and all periods rise at the same rate.
        if many % period == 0 and gain * period % many == 0:
            rise = gain * period // many
            if all([follows(value, earlier, rise) for earlier, value in zip(values, values[period:])]):
                return (period, rise)
    return (many, gain)


def lowest_rate(steps, prices):
    """Return the least price per piece as (top, under), or None if there are no standings."""
    if len(steps.states) == 0:
        return None
    # With a rate of 0 the weights of the steps are their prices.
    return lowest_mean(steps.ahead, step_weights(steps, prices, (0, 1)))


def step_weights(steps, prices, told):
    """Return for each standing `under` times the price of its last piece, less `top`."""
    top, under = told
    costs = costs_of(steps.windows.web, prices)
    return [under * costs[steps.last_piece(number)] - top for number in range(len(steps.states))]


def is_quotient(told):
    """Return whether a value is a tuple (top, under) of whole numbers in lowest terms."""
    if not isinstance(told, tuple) or len(told) != 2:
        return False
    top, under = told
    return is_whole(top) and is_whole(under) and under >= 1 and gcd(top, under) == 1


def is_block(steps, prices, told, block):
    """Return whether a value is a block that repeated for ever is a good endless plan at the told rate."""
    windows = steps.windows
    if not are_pieces(block, windows.web.places) or len(block) == 0:
        return False
    numbers = numbers_of(block, windows.web.places)
    # One block is enough, with the pieces that are ahead of it in the endless plan.
    state = windows.state_of([numbers[k % len(numbers)] for k in range(-windows.span, 0)])
    if windows.behind(state, numbers) is None:
        return False
    costs = costs_of(windows.web, prices)
    return told[1] * sum([costs[number] for number in numbers]) == told[0] * len(block)


def are_worths(steps, prices, told, worths):
    """Return whether a value is a list of a worth for each standing that no step raises by more than its weight."""
    if not isinstance(worths, list) or len(worths) != len(steps.states):
        return False
    if not all([is_whole(worth) for worth in worths]):
        return False
    weights = step_weights(steps, prices, told)
    return all([worths[number] <= worths[one] + weights[number]
                for number, ahead in enumerate(steps.ahead) for one in ahead])
