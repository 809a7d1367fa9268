"""Posts: strips on which watchers are set and taken away deed by deed."""

from hearunlike.checks import check_count, check_ring, check_spot, is_spot
from hearunlike.errors import NothingToUndo, Taken, Vacant
from hearunlike.plans import fault, idle, where
from hearunlike.webs import check_web


class Post:
    """A strip, the watchers on it, and the deeds that set them there."""

    def __init__(self, web, n, *, ring=False):
        check_web(web)
        check_count(n)
        check_ring(ring)
        self.web = web
        self.ring = ring
        self._n = n
        # The spots at which a watcher sits are the keys.
        self._taken = {}
        self._deeds = []

    def put(self, spot):
        """Set a watcher at a spot."""
        self._check_vacant(spot)
        self._taken[spot] = True
        self._deeds.append(("put", spot))

    def take(self, spot):
        """Take the watcher at a spot away."""
        self._check_taken(spot)
        del self._taken[spot]
        self._deeds.append(("take", spot))

    def shift(self, one, other):
        """Move the watcher at one spot to the other."""
        self._check_taken(one)
        # The watcher still sits at the one spot, so to shift it onto that spot is refused as well.
        self._check_vacant(other)
        del self._taken[one]
        self._taken[other] = True
        self._deeds.append(("shift", one, other))

    def plan(self):
        """Return the plan of the watchers."""
        return [[j for j in range(self.web.places) if (t, j) in self._taken] for t in range(self._n)]

    def fault(self, needs):
        """Return what keeps the plan from being good for needs, or None if it is good."""
        return fault(self.web, self.plan(), needs, ring=self.ring)

    def where(self, heard, *, lies=0):
        """Return the spots, in order, whose hearers differ from the heard watchers in at most so many lies."""
        return where(self.web, self.plan(), heard, lies=lies, ring=self.ring)

    def idle(self, needs):
        """Return the watchers, in order, without which, each by itself, the plan is good."""
        return idle(self.web, self.plan(), needs, ring=self.ring)

    def back(self):
        """Undo the last deed that has not been undone."""
        if len(self._deeds) == 0:
            raise NothingToUndo()
        deed = self._deeds.pop()
        if deed[0] == "put":
            del self._taken[deed[1]]
        elif deed[0] == "take":
            self._taken[deed[1]] = True
        else:
            del self._taken[deed[2]]
            self._taken[deed[1]] = True

    def log(self):
        """Return the list of the deeds that have not been undone, the first one first."""
        return list(self._deeds)

    def copy(self):
        """Return an independent post with the same plan and the same deeds to undo."""
        other = Post(self.web, self._n, ring=self.ring)
        other._taken = {spot: True for spot in self._taken}
        other._deeds = list(self._deeds)
        return other

    def _check_vacant(self, spot):
        """Raise InvalidSpot unless it is a spot of the strip, then Taken if a watcher sits there."""
        check_spot(spot, self._n, self.web.places)
        if spot in self._taken:
            raise Taken(spot)

    def _check_taken(self, spot):
        """Raise InvalidSpot unless it is a spot of the strip, then Vacant if no watcher sits there."""
        check_spot(spot, self._n, self.web.places)
        if spot not in self._taken:
            raise Vacant(spot)

    def __len__(self):
        return len(self._taken)

    def __contains__(self, spot):
        return is_spot(spot, self._n, self.web.places) and spot in self._taken

    def __eq__(self, other):
        return (isinstance(other, Post) and self.web == other.web and self.ring == other.ring
                and self._n == other._n and self._taken == other._taken)
