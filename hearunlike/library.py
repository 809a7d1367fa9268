"""Libraries: webs that are kept by names."""

from hearunlike.checks import MOST_PLACES
from hearunlike.errors import InvalidName, InvalidPlan, NothingToUndo, TakenName, UnknownName
from hearunlike.mending import parted
from hearunlike.plans import are_pieces, check_needs, is_good, is_plan
from hearunlike.webs import check_web

LETTERS = "abcdefghijklmnopqrstuvwxyz"
LONGEST_NAME = 8


class Library:
    """Webs kept by names, and the steps that put them there."""

    def __init__(self):
        self._webs = {}
        # Each step with the web that was kept by its name ahead of it, or None.
        self._steps = []

    def put(self, name, web):
        """Keep one more web by a name."""
        if not is_name(name):
            raise InvalidName(name)
        if name in self._webs:
            raise TakenName(name)
        check_web(web)
        self._steps.append(("put", name, None))
        self._webs[name] = web

    def drop(self, name):
        """Take the web out that is kept by a name."""
        self._check_kept(name)
        self._steps.append(("drop", name, self._webs[name]))
        del self._webs[name]

    def change(self, name, web):
        """Replace the web that is kept by a name."""
        self._check_kept(name)
        check_web(web)
        self._steps.append(("change", name, self._webs[name]))
        self._webs[name] = web

    def web_of(self, name):
        """Return the web that is kept by a name."""
        self._check_kept(name)
        return self._webs[name]

    def names(self):
        """Return the list of all names in order."""
        return sorted(list(self._webs))

    def good_for(self, plan, needs):
        """Return the names, in order, of the webs of which a value is a plan, and a good one as a row."""
        if not are_pieces(plan, MOST_PLACES) or len(plan) == 0:
            raise InvalidPlan(plan)
        check_needs(needs)
        return [name for name in self.names()
                if is_plan(self._webs[name], plan) and is_good(self._webs[name], plan, needs)]

    def alike(self, web, needs):
        """Return the names, in order, of the webs with as many places that are not parted from a web."""
        check_web(web)
        check_needs(needs)
        return [name for name in self.names()
                if self._webs[name].places == web.places and parted(self._webs[name], web, needs) is None]

    def back(self):
        """Undo the last step that has not been undone."""
        if len(self._steps) == 0:
            raise NothingToUndo()
        deed, name, web = self._steps.pop()
        if deed == "put":
            del self._webs[name]
        else:
            self._webs[name] = web

    def log(self):
        """Return the list of the steps that have not been undone, the first one first."""
        return [(deed, name) for deed, name, _ in self._steps]

    def copy(self):
        """Return an independent library with the same webs by the same names and the same steps to undo."""
        other = Library()
        other._webs = {name: self._webs[name] for name in self._webs}
        other._steps = list(self._steps)
        return other

    def _check_kept(self, name):
        """Raise UnknownName unless it is a name by which a web is kept."""
        if name not in self:
            raise UnknownName(name)

    def __len__(self):
        return len(self._webs)

    def __contains__(self, name):
        return is_name(name) and name in self._webs

    def __eq__(self, other):
        return isinstance(other, Library) and self._webs == other._webs


def is_name(value):
    """Return whether a value is a name."""
    if not isinstance(value, str):
        return False
    return 1 <= len(value) <= LONGEST_NAME and all([letter in LETTERS for letter in value])
