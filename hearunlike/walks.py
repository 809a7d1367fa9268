"""Walks from state to state, which put plans together piece by piece, and the cheapest plans among these."""

from hearunlike.plans import is_good
from hearunlike.windows import PIECES, Windows, plan_of


class Cheapest:
    """The cheapest plans of a strip: their price, or None if there is no good plan, and how many there are.

    A lane is a tuple (head, start, ends): its plans begin with the pieces `head`, go on from the state `start` by one
    piece for each table of `steps`, and end with one of the states `ends`. The lanes are in the order of their heads.
    """

    def __init__(self, steps, lanes, costs):
        self._steps = steps
        self._costs = costs
        # Lanes with the same ends share what the ways from the states to the ends cost.
        rests = {}
        found = []
        for head, start, ends in lanes:
            if ends not in rests:
                rests[ends] = ways_to(ends, steps, costs)[0]
            if start in rests[ends]:
                price, many = rests[ends][start]
                found.append((price + sum([costs[piece] for piece in head]), many, (head, start, ends)))
        self.price = min([entry[0] for entry in found], default=None)
        self._lanes = [(many, lane) for price, many, lane in found if price == self.price]
        self.many = sum([entry[0] for entry in self._lanes])

    def numbers_at(self, at):
        """Return the numbers of the pieces of the plan number `at`."""
        which, at = place_of(at, [many for many, _ in self._lanes])
        head, state, ends = self._lanes[which][1]
        numbers = list(head)
        rests = ways_to(ends, self._steps, self._costs)
        for table, here, rest in zip(self._steps, rests, rests[1:]):
            ways = [(number, following) for number, following in table[state]
                    if following in rest and rest[following][0] + self._costs[number] == here[state][0]]
            which, at = place_of(at, [rest[following][1] for _, following in ways])
            piece, state = ways[which]
            numbers.append(piece)
        return numbers


def cheapest(web, needs, prices, allowed, ring):
    """Return the cheapest plans of a strip for each of whose pieces the allowed ones are told, as a Cheapest."""
    costs = costs_of(web, prices)
    if not ring:
        windows = Windows(web, needs, web.reach)
        lanes = [((), 0, tuple(windows.ends(len(allowed))))]
        return Cheapest(steps_of(windows, allowed, 0), lanes, costs)
    if len(allowed) <= 4 * web.reach:
        return Cheapest([], whole_lanes(web, needs, allowed), costs)
    windows = Windows(web, needs, web.reach)
    return Cheapest(steps_of(windows, allowed, windows.span), ring_lanes(windows, allowed), costs)


def all_allowed(web, n):
    """Return for each of n pieces the tuple of all pieces that may stand there."""
    return [tuple(range(len(PIECES[web.places])))] * n


def costs_of(web, prices):
    """Return for each piece what its watchers cost."""
    return [sum([prices[i] for i in piece]) for piece in PIECES[web.places]]


def place_of(at, counts):
    """Return which one of the counted rows, put one behind another, holds the number `at`, and its number there."""
    which = 0
    while at >= counts[which]:
        at = at - counts[which]
        which = which + 1
    return which, at


def ways_to(ends, steps, costs):
    """Return for each number of steps taken a dict that tells for a state the least cost of the rest and its ways."""
    layers = [{state: (0, 1) for state in ends}]
    for table in steps[::-1]:
        layers.append(ways_before(table, layers[-1], costs))
    return layers[::-1]


def ways_before(table, layer, costs):
    """Return the least costs and numbers of ways one step ahead of a layer of such."""
    found = {}
    for state, row in enumerate(table):
        ways = [(layer[following][0] + costs[piece], layer[following][1])
                for piece, following in row if following in layer]
        if len(ways) > 0:
            least = min([price for price, _ in ways])
            found[state] = (least, sum([many for price, many in ways if price == least]))
    return found


def steps_of(windows, allowed, begin):
    """Return the tables of the steps by which pieces are put one behind another, from piece `begin` on."""
    tables = {}
    steps = []
    for t in range(begin, len(allowed)):
        # Ahead of that piece the windows show no spots of the row.
        checked = t >= 3 * windows.reach
        if (checked, allowed[t]) not in tables:
            tables[(checked, allowed[t])] = table_of(windows, checked, allowed[t])
        steps.append(tables[(checked, allowed[t])])
    return steps


def table_of(windows, checked, pieces):
    """Return for each state the list of the tuples (piece, following state) by which a walk may go on from there."""
    table = []
    for state in range(windows.states):
        found = [(piece, state * windows.kinds + piece) for piece in pieces]
        table.append([(piece, window % windows.states) for piece, window in found
                      if windows.good[window] or not checked])
    return table


def whole_lanes(web, needs, allowed):
    """Return the lanes of a ring that is too short for windows: each good plan is one."""
    plans = [()]
    for pieces in allowed:
        plans = [plan + (piece,) for plan in plans for piece in pieces]
    good = [plan for plan in plans if is_good(web, plan_of(plan, web.places), needs, ring=True)]
    return [(plan, 0, (0,)) for plan in good]


def ring_lanes(windows, allowed):
    """Return the lanes of a ring: one for each state with which it may begin."""
    lanes = []
    for start, ends in enumerate(joined(windows)):
        head = tuple(windows.pieces_of(start))
        if all([piece in pieces for piece, pieces in zip(head, allowed)]):
            lanes.append((head, start, tuple(ends)))
    return lanes


def joined(windows):
    """Return for each state the list of the states behind which it may stand."""
    # The states are put behind others piece by piece, those with the same beginning at once.
    rows = [[(state, state) for state in range(windows.states)]]
    for _ in range(windows.span):
        rows = [put_behind(windows, row, piece) for row in rows for piece in range(windows.kinds)]
    return [[state for state, _ in row] for row in rows]


def put_behind(windows, row, piece):
    """Return those of the tuples (first state, last state) behind which a piece may stand, with the new last state."""
    found = [(first, state * windows.kinds + piece) for first, state in row]
    return [(first, window % windows.states) for first, window in found if windows.good[window]]
