"""The errors of the package: each is a WatchError, with the value that was refused."""


class WatchError(ValueError):
    """What all errors of the package are derived from."""


class InvalidNumber(WatchError):
    """A number, or a Boolean that is passed by name, that doesn't fit."""

    def __init__(self, value=None):
        WatchError.__init__(self, "a number, or a Boolean that is passed by name, that doesn't fit")
        self.value = value


class InvalidList(WatchError):
    """No list, or one that doesn't fit."""

    def __init__(self, value=None):
        WatchError.__init__(self, "no list, or one that doesn't fit")
        self.value = value


class InvalidItem(WatchError):
    """No tuple that tells who hears what, or one told twice."""

    def __init__(self, value=None):
        WatchError.__init__(self, "no tuple that tells who hears what, or one told twice")
        self.value = value


class InvalidWeb(WatchError):
    """No web, or one that doesn't fit."""

    def __init__(self, value=None):
        WatchError.__init__(self, "no web, or one that doesn't fit")
        self.value = value


class InvalidSpot(WatchError):
    """No spot of the strip."""

    def __init__(self, value=None):
        WatchError.__init__(self, "no spot of the strip")
        self.value = value


class InvalidPlan(WatchError):
    """No plan for the web."""

    def __init__(self, value=None):
        WatchError.__init__(self, "no plan for the web")
        self.value = value


class InvalidNeeds(WatchError):
    """No needs."""

    def __init__(self, value=None):
        WatchError.__init__(self, "no needs")
        self.value = value


class InvalidHeard(WatchError):
    """No list of watchers of the plan in order."""

    def __init__(self, value=None):
        WatchError.__init__(self, "no list of watchers of the plan in order")
        self.value = value


class InvalidRule(WatchError):
    """No rule, or one that doesn't fit."""

    def __init__(self, value=None):
        WatchError.__init__(self, "no rule, or one that doesn't fit")
        self.value = value


class InvalidPrices(WatchError):
    """No prices for the web."""

    def __init__(self, value=None):
        WatchError.__init__(self, "no prices for the web")
        self.value = value


class InvalidText(WatchError):
    """No text of a plan."""

    def __init__(self, value=None):
        WatchError.__init__(self, "no text of a plan")
        self.value = value


class Taken(WatchError):
    """A watcher sits at the spot already."""

    def __init__(self, value=None):
        WatchError.__init__(self, "a watcher sits at the spot already")
        self.value = value


class Vacant(WatchError):
    """No watcher sits at the spot."""

    def __init__(self, value=None):
        WatchError.__init__(self, "no watcher sits at the spot")
        self.value = value


class InvalidName(WatchError):
    """No name."""

    def __init__(self, name=None):
        WatchError.__init__(self, "no name")
        self.name = name


class TakenName(WatchError):
    """The name is kept already."""

    def __init__(self, name=None):
        WatchError.__init__(self, "the name is kept already")
        self.name = name


class UnknownName(WatchError):
    """No kept name."""

    def __init__(self, name=None):
        WatchError.__init__(self, "no kept name")
        self.name = name


class NothingToUndo(WatchError):
    """Nothing is left to undo."""

    def __init__(self):
        WatchError.__init__(self, "nothing is left to undo")
