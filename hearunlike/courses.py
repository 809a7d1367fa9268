"""Courses: the least prices of plans for ever longer strips, until they repeat but for a rise."""

from hearunlike.rates import Steps
from hearunlike.walks import all_allowed, cheapest, costs_of
from hearunlike.windows import Windows

# More than any plan costs that is looked at: the price where there is no plan.
FAR = 10 ** 30


class Course:
    """The least prices of what may become plans, by the node at which they end, for strips of one length.

    A longer strip goes on from a node to one that it is told to be behind, at the cost of that node; a plan is
    whole at each of the nodes `ends`.
    """

    def __init__(self, lowest_at, behind, costs, ends):
        self._lowest_at = lowest_at
        self._behind = behind
        self._costs = costs
        self._ends = ends

    def go_on(self):
        """Go on to the strips of one piece more."""
        now = self._lowest_at
        self._lowest_at = [min([now[node] for node in nodes], default=FAR) + cost
                           for nodes, cost in zip(self._behind, self._costs)]

    def least(self):
        """Return the least price of a plan, or None if there is none."""
        found = min([self._lowest_at[node] for node in self._ends], default=FAR)
        return found if found < FAR else None

    def lowest(self):
        """Return the least price at any node, or 0 if there is none."""
        found = min(self._lowest_at, default=FAR)
        return found if found < FAR else 0

    def shape(self):
        """Return by how much the price at each node is more than the lowest, -1 where there is none."""
        low = self.lowest()
        return tuple([found - low if found < FAR else -1 for found in self._lowest_at])


def least_prices(web, needs, prices, ring, most):
    """Return the tuple (values, period, rise) of the list of the least prices for 1 piece, for 2 pieces and so on.

    Beyond the list each value is that of `period` pieces less, plus `rise` unless it is None; with a number `most`
    the list has no more values than that, and `period` is None if nothing is known beyond.
    """
    span = 4 * web.reach
    values = [cheapest(web, needs, prices, all_allowed(web, n), ring).price for n in range(1, span + 1)]
    course = ring_course(web, needs, prices) if ring else row_course(web, needs, prices)
    seen = {}
    while most is None or len(values) < most:
        shape = course.shape()
        if shape in seen:
            length, low = seen[shape]
            return values, len(values) - length, course.lowest() - low
        seen[shape] = (len(values), course.lowest())
        course.go_on()
        values.append(course.least())
    return values, None, 0


def far_price(web, needs, prices, n, ring):
    """Return the least price for n pieces, however many these are."""
    values, period, rise = least_prices(web, needs, prices, ring, n)
    return values[n - 1] if n <= len(values) else price_beyond(values, period, rise, n)


def price_beyond(values, period, rise, n):
    """Return the price for a number of pieces beyond a list of values that goes on by a period and a rise."""
    times = (n - len(values) + period - 1) // period
    found = values[n - times * period - 1]
    return None if found is None else found + times * rise


def row_course(web, needs, prices):
    """Return the course of rows, at as many pieces as a state has."""
    windows = Windows(web, needs, web.reach)
    costs = costs_of(web, prices)
    lowest_at = [FAR] * windows.states
    for state in beginnings(windows):
        lowest_at[state] = sum([costs[piece] for piece in windows.pieces_of(state)])
    last_costs = [costs[state % windows.kinds] for state in range(windows.states)]
    return Course(lowest_at, states_ahead(windows), last_costs, windows.ends(windows.span))


def ring_course(web, needs, prices):
    """Return the course of rings, at as many pieces as a state has."""
    steps = Steps(web, needs)
    costs = costs_of(web, prices)
    # A ring goes from standing to standing. A node is the standing with which it began and the one at which it is now:
    # where both are one it is closed.
    many = len(steps.states)
    ends = [number * many + number for number in range(many)]
    lowest_at = [FAR] * (many * many)
    for node in ends:
        lowest_at[node] = 0
    behind = [[first * many + number for number in ahead] for first in range(many) for ahead in steps.ahead]
    last_costs = [costs[steps.last_piece(number)] for number in range(many)]
    course = Course(lowest_at, behind, last_costs * many, ends)
    for _ in range(steps.windows.span):
        course.go_on()
    return course


def beginnings(windows):
    """Return the states with which a row may begin."""
    found = list(range(windows.states))
    begun = list(found)
    for _ in range(windows.reach):
        # The window of the row as far as it goes, with pieces without watchers ahead of it, is the number itself.
        found = [state for state in found if windows.good[begun[state]]]
        begun = [part // windows.kinds for part in begun]
    return found


def states_ahead(windows):
    """Return for each state the list of the states from which a walk may go on to it."""
    ahead = [[] for _ in range(windows.states)]
    for window, good in enumerate(windows.good):
        if good:
            ahead[window % windows.states].append(window // windows.kinds)
    return ahead
