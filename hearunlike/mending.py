"""Mending of plans by more watchers, and the first plan by which two webs are unlike."""

from hearunlike.checks import check_prices, check_ring
from hearunlike.errors import InvalidWeb
from hearunlike.plans import check_needs, check_plan
from hearunlike.walks import cheapest
from hearunlike.webs import check_web
from hearunlike.windows import PIECES, Windows, plan_of

# If rows of at most so many pieces for each piece of reach, and one more, don't part two webs, no others do.
FARTHEST = 12


def mended(web, plan, needs, prices, *, ring=False):
    """Return the first in order of the cheapest good plans with all watchers of a plan, or None if there is none."""
    check_plan(web, plan)
    check_needs(needs)
    check_prices(prices, web.places)
    check_ring(ring)
    allowed = [pieces_with(piece, web.places) for piece in plan]
    found = cheapest(web, needs, prices, allowed, ring)
    return None if found.many == 0 else plan_of(found.numbers_at(0), web.places)


def parted(web, other, needs):
    """Return the first plan that is good as a row for just one of two webs, and the number of this web, or None."""
    check_web(web)
    check_web(other)
    if web.places != other.places:
        raise InvalidWeb(other)
    check_needs(needs)
    if web == other:
        return None
    found = first_parting(web, other, needs)
    return None if found is None else (plan_of(found[0], web.places), found[1])


def pieces_with(piece, places):
    """Return the numbers of the pieces, in order, that have all places of a piece."""
    return tuple([number for number, found in enumerate(PIECES[places]) if all([place in found for place in piece])])


def first_parting(web, other, needs):
    """Return what `parted` tells of two webs, the plan by the numbers of its pieces."""
    reach = max(web.reach, other.reach)
    both = [Windows(web, needs, reach), Windows(other, needs, reach)]
    # A node is (state, good, good for the other one) of rows up to there; it leads to the first of these rows.
    layer = {(0, True, True): ()}
    # All longer rows end like the last ones of these.
    ends = [[windows.ends(n) for windows in both] for n in range(1, 3 * reach + 1)]
    for n in range(1, FARTHEST * reach + 2):
        layer = rows_behind(layer, both, n > 3 * reach)
        found = parting_in(layer, ends[min(n, 3 * reach) - 1])
        if found is not None:
            return found
    return None


def rows_behind(layer, both, checked):
    """Return the layer of the rows with one piece more; unless checked, no window shows their spots yet."""
    one, other = both
    found = {}
    # The rows of a layer are in order, so the first one that leads to a node is the first of all.
    for (state, good, other_good), row in layer.items():
        for piece in range(one.kinds):
            window = state * one.kinds + piece
            now = good and (one.good[window] or not checked)
            other_now = other_good and (other.good[window] or not checked)
            node = (window % one.states, now, other_now)
            # What is good for neither web up to here does not become good.
            if (now or other_now) and node not in found:
                found[node] = row + (piece,)
    return found


def parting_in(layer, ends):
    """Return the first row of a layer that is good for just one of the webs, and which one this is, or None."""
    first = set(ends[0])
    second = set(ends[1])
    for (state, good, other_good), row in layer.items():
        is_first = good and state in first
        is_second = other_good and state in second
        if is_first != is_second:
            return (row, 0 if is_first else 1)
    return None
