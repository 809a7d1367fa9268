"""Webs, which tell kinds of strips, and what is heard in strips."""

from hearunlike.checks import check_count, check_places, check_ring, check_spot, is_between
from hearunlike.errors import InvalidItem, InvalidList, InvalidWeb

# For each number of places of a piece, how many pieces further on a watcher may hear.
FARTHEST = {1: 2, 2: 1}


class Web:
    """A kind of strip: how many places a piece has, and which places hear which."""

    def __init__(self, places, hears):
        check_places(places)
        if not isinstance(hears, list):
            raise InvalidList(hears)
        check_items(places, hears)
        self.places = places
        self.reach = max([1] + [abs(item[2]) for item in hears])
        self._hears = sorted(hears)

    def hears(self):
        """Return the list of the tuples (i, j, d) in order."""
        return list(self._hears)

    def audible(self, n, spot, *, ring=False):
        """Return the spots, in order, that a watcher at a spot of a strip of n pieces hears."""
        check_count(n)
        check_spot(spot, n, self.places)
        check_ring(ring)
        piece, place = spot
        # In a short ring several tuples may lead to the same spot.
        found = set()
        for i, j, d in self._hears:
            further = (piece + d) % n if ring else piece + d
            if i == place and 0 <= further < n:
                found.add((further, j))
        return sorted(found)

    def __eq__(self, other):
        return isinstance(other, Web) and self.places == other.places and self._hears == other._hears


def is_item(value, places):
    """Return whether a value is a tuple (i, j, d) of a web with so many places."""
    if not isinstance(value, tuple) or len(value) != 3:
        return False
    i, j, d = value
    far = FARTHEST[places]
    return is_between(i, 0, places - 1) and is_between(j, 0, places - 1) and is_between(d, -far, far)


def check_items(places, hears):
    """Raise InvalidItem with the first item that is no tuple of a web or occurred ahead of it."""
    seen = set()
    for item in hears:
        if not is_item(item, places) or item in seen:
            raise InvalidItem(item)
        seen.add(item)


def check_web(web):
    """Raise InvalidWeb unless it is a web."""
    if not isinstance(web, Web):
        raise InvalidWeb(web)
