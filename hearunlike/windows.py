"""Windows: runs of pieces so long that they show whether the spots of one of their pieces are good."""

# The pieces of plans, in order, for each number of places; elsewhere they are told by their numbers in this order.
PIECES = {1: ((), (0,)), 2: ((), (0,), (0, 1), (1,))}


class Windows:
    """The windows of a web, and those in which the spots of one piece are good for needs.

    A state is a run of 4 * reach pieces, told by its number in order. A window is a state and a piece behind it,
    told by `kinds` times the state, plus the piece; it shows whether the spots of its piece number `reach` have
    enough hearers and are unlike all spots of this piece and of those behind it. Pieces beyond the ends of a row
    are taken for pieces without watchers. A strip is good exactly if all its windows are, except for short rings.
    """

    def __init__(self, web, needs, reach):
        self.web = web
        self.needs = needs
        # The reach is that of the web, or a greater one where the web is compared with another one.
        self.reach = reach
        self.span = 4 * reach
        self.kinds = len(PIECES[web.places])
        # The watchers of each window, as the bits of a number.
        self.bits = bits_of_runs(web.places, self.span + 1)
        self.states = len(self.bits) // self.kinds
        self.good = [False] * len(self.bits)
        # Spots more than 2 * reach further on have no common hearer with those of this piece.
        for window in self.passing(self.bits, 3 * reach):
            self.good[window] = True

    def passing(self, bits, last):
        """Return the numbers of those of a list of watchers that are good as far as the pieces up to `last` show."""
        runs = list(range(len(bits)))
        ones = ones_below(self.web.places * (self.span + 1))
        for mask, least in asked_of(self.web, self.needs, self.reach, last):
            runs = [run for run in runs if ones[bits[run] & mask] >= least]
        return runs

    def ends(self, n):
        """Return the states, in order, with which a row of n pieces ends well, if it was good up to there."""
        states = list(range(self.states))
        for beyond in range(max(1, 3 * self.reach + 1 - n), 3 * self.reach + 1):
            # A state has the number of the window with piece 0 ahead of it. With each piece beyond the end it moves on
            # by one piece, until the last one of the row is where the window shows its spots.
            bits = [self.bits[state] >> (beyond * self.web.places) for state in states]
            passed = self.passing(bits, min(3 * self.reach, self.span - beyond))
            states = [states[run] for run in passed]
        return states

    def behind(self, state, pieces):
        """Return the state at the end of pieces put behind a state, or None if a window of these is not good."""
        for piece in pieces:
            window = state * self.kinds + piece
            if not self.good[window]:
                return None
            state = window % self.states
        return state

    def pieces_of(self, state):
        """Return the list of the pieces of a state."""
        pieces = []
        for _ in range(self.span):
            pieces.append(state % self.kinds)
            state = state // self.kinds
        return pieces[::-1]

    def state_of(self, pieces):
        """Return the state that is made of these pieces."""
        state = 0
        for piece in pieces:
            state = state * self.kinds + piece
        return state


def bits_of_runs(places, many):
    """Return for each run of so many pieces, in order, its watchers as the bits of a number."""
    found = [0]
    for t in range(many):
        masks = [sum([1 << (t * places + i) for i in piece]) for piece in PIECES[places]]
        found = [bits + mask for bits in found for mask in masks]
    return found


def ones_below(many):
    """Return for each number of so many bits how many of them are 1."""
    found = [0]
    for _ in range(many):
        found = found + [ones + 1 for ones in found]
    return found


def hearer_bits(web, t, j):
    """Return who may hear place j of piece t of a window, as the bits of a number."""
    return sum([1 << ((t - d) * web.places + i) for i, place, d in web.hears() if place == j])


def asked_of(web, needs, reach, last):
    """Return tuples (bits, least): how many of these watchers a window must have to be good, each of them."""
    few, unlike = needs
    asked = []
    for j in range(web.places):
        own = hearer_bits(web, reach, j)
        asked.append((own, few))
        others = [(t, k) for t in range(reach, last + 1) for k in range(web.places) if (t, k) > (reach, j)]
        asked.extend([(own ^ hearer_bits(web, t, k), unlike) for t, k in others])
    return asked


def numbers_of(plan, places):
    """Return the numbers of the pieces of a plan."""
    numbers = {piece: number for number, piece in enumerate(PIECES[places])}
    return [numbers[tuple(piece)] for piece in plan]


def plan_of(numbers, places):
    """Return the plan made of the pieces with these numbers."""
    return [list(PIECES[places][number]) for number in numbers]
