"""Plans, which tell where watchers sit on a strip, and how good they are."""

from hearunlike.checks import check_count, check_ring, check_spot, is_between, is_spot
from hearunlike.errors import InvalidHeard, InvalidNeeds, InvalidNumber, InvalidPlan
from hearunlike.webs import check_web


def is_plan(web, value):
    """Return whether a value is a plan for some strip of a web."""
    check_web(web)
    return are_pieces(value, web.places) and len(value) > 0


def hearers(web, plan, spot, *, ring=False):
    """Return the watchers, in order, that hear a spot."""
    check_plan(web, plan)
    check_spot(spot, len(plan), web.places)
    check_ring(ring)
    return hearing(web, plan, ring)[spot]


def fault(web, plan, needs, *, ring=False):
    """Return what keeps a plan from being good for needs, or None if it is good."""
    check_plan(web, plan)
    check_needs(needs)
    check_ring(ring)
    return first_fault(hearing(web, plan, ring), near_pairs(web, len(plan), ring), needs)


def is_good(web, plan, needs, *, ring=False):
    """Return whether a plan is good for needs."""
    return fault(web, plan, needs, ring=ring) is None


def where(web, plan, heard, *, lies=0, ring=False):
    """Return the spots, in order, whose hearers differ from the heard watchers in at most so many lies."""
    check_plan(web, plan)
    check_heard(web, plan, heard)
    if not is_between(lies, 0, 3):
        raise InvalidNumber(lies)
    check_ring(ring)
    table = hearing(web, plan, ring)
    return [spot for spot in table if len(set(table[spot]) ^ set(heard)) <= lies]


def two(web, plan, heard, *, ring=False):
    """Return the pairs of spots, in order, that together are heard by just the heard watchers."""
    check_plan(web, plan)
    check_heard(web, plan, heard)
    check_ring(ring)
    table = hearing(web, plan, ring)
    quiet = [spot for spot in table if len(set(table[spot]) - set(heard)) == 0]
    # Nobody else hears a quiet spot, so to count the hearers of two such spots is enough.
    return [(one, other) for one in quiet for other in quiet
            if one < other and len(set(table[one]) | set(table[other])) == len(heard)]


def idle(web, plan, needs, *, ring=False):
    """Return the watchers, in order, without which, each by itself, a plan is good."""
    check_plan(web, plan)
    check_needs(needs)
    check_ring(ring)
    needed = needed_watchers(web, plan, needs, ring)
    # What is not good with a watcher is not good without it.
    if needed is None:
        return []
    kept = set(needed)
    return [watcher for watcher in watchers(plan) if watcher not in kept]


def vital(web, n, needs, *, ring=False):
    """Return the spots, in order, at which a watcher sits in every good plan, or None if there is none."""
    check_web(web)
    check_count(n)
    check_needs(needs)
    check_ring(ring)
    # More watchers never make a good plan bad, so the plan with all of them decides.
    plan = [list(range(web.places)) for _ in range(n)]
    return needed_watchers(web, plan, needs, ring)


def is_piece(value, places):
    """Return whether a value is a list of places, of so many, ascending and each once."""
    if not isinstance(value, list):
        return False
    if not all([is_between(place, 0, places - 1) for place in value]):
        return False
    return ascends(value)


def are_pieces(value, places):
    """Return whether a value is a list of pieces of plans, perhaps without any."""
    return isinstance(value, list) and all([is_piece(piece, places) for piece in value])


def ascends(values):
    """Return whether each item of a list is greater than the one ahead of it."""
    return all([one < other for one, other in zip(values, values[1:])])


def is_needs(value):
    """Return whether a value is a tuple (a, b) of needs."""
    if not isinstance(value, tuple) or len(value) != 2:
        return False
    return is_between(value[0], 1, 3) and is_between(value[1], 0, 2 * value[0])


def is_watcher(web, plan, value):
    """Return whether a value is a spot at which a watcher of a plan sits."""
    return is_spot(value, len(plan), web.places) and value[1] in plan[value[0]]


def is_heard(web, plan, value):
    """Return whether a value is a list of watchers of a plan, in order, each once."""
    if not isinstance(value, list):
        return False
    if not all([is_watcher(web, plan, item) for item in value]):
        return False
    return ascends(value)


def check_plan(web, plan):
    """Raise InvalidWeb unless it is a web, then InvalidPlan unless it is a plan for it."""
    if not is_plan(web, plan):
        raise InvalidPlan(plan)


def check_needs(needs):
    """Raise InvalidNeeds unless they are needs."""
    if not is_needs(needs):
        raise InvalidNeeds(needs)


def check_heard(web, plan, heard):
    """Raise InvalidHeard unless it is a list of watchers of a plan, in order, each once."""
    if not is_heard(web, plan, heard):
        raise InvalidHeard(heard)


def watchers(plan):
    """Return the watchers of a plan in order."""
    return [(t, place) for t, piece in enumerate(plan) for place in piece]


def spots(n, places):
    """Return the spots, in order, of a strip of n pieces with so many places each."""
    return [(t, j) for t in range(n) for j in range(places)]


def hearing(web, plan, ring):
    """Return a dict that tells for each spot, in order, the list of its hearers, in order."""
    n = len(plan)
    table = {spot: [] for spot in spots(n, web.places)}
    for watcher in watchers(plan):
        for spot in web.audible(n, watcher, ring=ring):
            table[spot].append(watcher)
    return table


def near_pieces(web, n, t, ring):
    """Return the pieces, in order, that are at most 2 * web.reach from piece t."""
    span = 2 * web.reach
    if ring:
        return sorted({(t + k) % n for k in range(-span, span + 1)})
    return list(range(max(0, t - span), min(n, t + span + 1)))


def near_pairs(web, n, ring):
    """Return the pairs of spots, in order, that may have a common hearer."""
    pairs = []
    for one in spots(n, web.places):
        near = [(t, j) for t in near_pieces(web, n, one[0], ring) for j in range(web.places)]
        pairs.extend([(one, other) for other in near if one < other])
    return pairs


def first_fault(table, pairs, needs):
    """Return the least fault by the hearers of all spots and the pairs of near spots, or None."""
    few, unlike = needs
    for spot, heard in table.items():
        if len(heard) < few:
            return ("few", spot)
    # Spots that are not near have no common hearer: with enough hearers each they are unlike.
    for one, other in pairs:
        if len(set(table[one]) ^ set(table[other])) < unlike:
            return ("alike", one, other)
    return None


def needed_watchers(web, plan, needs, ring):
    """Return the watchers, in order, without which a plan is not good, or None if it is not anyway."""
    table = hearing(web, plan, ring)
    pairs = near_pairs(web, len(plan), ring)
    if first_fault(table, pairs, needs) is not None:
        return None
    few, unlike = needs
    needed = set()
    for heard in table.values():
        if len(heard) == few:
            for watcher in heard:
                needed.add(watcher)
    for one, other in pairs:
        apart = sorted(set(table[one]) ^ set(table[other]))
        if len(apart) == unlike:
            for watcher in apart:
                needed.add(watcher)
    return sorted(needed)
