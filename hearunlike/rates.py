"""The steps from standing to standing, and what they cost in the long run at the least."""

from math import gcd

from hearunlike.windows import Windows, numbers_of


class Steps:
    """The standings of a web for needs, as states in order, and for each its number among them.

    `ahead` tells for each standing, by its number, the list of the numbers of those from which a step leads to it.
    """

    def __init__(self, web, needs):
        self.windows = Windows(web, needs, web.reach)
        self.states = standing_states(self.windows)
        self.ahead = [[] for _ in self.states]
        numbers = {state: number for number, state in enumerate(self.states)}
        for state in self.states:
            for piece in range(self.windows.kinds):
                following = self.windows.behind(state, [piece])
                if following in numbers:
                    self.ahead[numbers[following]].append(numbers[state])

    def last_piece(self, number):
        """Return the last piece of the standing with this number: the one of all steps that lead to it."""
        return self.states[number] % self.windows.kinds


def standing_states(windows):
    """Return the states, in order, that are standings."""
    places = windows.web.places
    full = numbers_of([list(range(places)) for _ in range(windows.span)], places)
    found = []
    for state in range(windows.states):
        # More watchers never make a plan bad, so with watchers all around it a standing is good as well.
        around = windows.behind(state, full)
        if around is not None and windows.behind(around, windows.pieces_of(state)) is not None:
            found.append(state)
    return found


def lowest_mean(ahead, costs):
    """Return the least mean cost of a way that leads back to its beginning, as a tuple in lowest terms.

    A way from one of the nodes `ahead` to a node costs what is told for the node; each node has one ahead of it.
    """
    many = len(costs)
    rows = [[0] * many]
    for _ in range(many):
        last = rows[-1]
        rows.append([min([last[one] for one in nodes]) + cost for nodes, cost in zip(ahead, costs)])
    # Karp's theorem: for each node the greatest of these means counts, told here by the least fall; the least of them
    # is the answer.
    falls = [lowest([(rows[k][node] - rows[many][node], many - k) for k in range(many)]) for node in range(many)]
    top, under = lowest([(-fall, length) for fall, length in falls])
    divisor = gcd(top, under)
    return (top // divisor, under // divisor)


def lowest(quotients):
    """Return the least of a list of quotients (top, under)."""
    best = quotients[0]
    for top, under in quotients:
        if top * best[1] < best[0] * under:
            best = (top, under)
    return best


def least_worths(ahead, weights):
    """Return for each node the least weight of a way that ends there; the way without a step weighs 0.

    No way around may weigh less than 0.
    """
    worths = [0] * len(weights)
    while True:
        found = [min(worth, min([worths[one] for one in nodes]) + weight)
                 for worth, nodes, weight in zip(worths, ahead, weights)]
        if found == worths:
            return worths
        worths = found


def tight_loop(ahead, weights, worths):
    """Return the nodes of a way around by whose steps the worths rise by just the weights."""
    tight = [[one for one in nodes if worths[one] + weight == worth]
             for worth, nodes, weight in zip(worths, ahead, weights)]
    nodes = list(range(len(tight)))
    fewer = led_to(nodes, tight)
    while len(fewer) < len(nodes):
        nodes = fewer
        fewer = led_to(nodes, tight)
    way = [nodes[0]]
    while True:
        node = [one for one in tight[way[-1]] if one in nodes][0]
        if node in way:
            # The way was gone backwards.
            return way[way.index(node):][::-1]
        way.append(node)


def led_to(nodes, tight):
    """Return those of a list of nodes to which a tight step leads from one of them."""
    kept = set(nodes)
    return [node for node in nodes if any([one in kept for one in tight[node]])]
