"""Checks of single values that all modules share."""

from hearunlike.errors import InvalidNumber, InvalidPrices, InvalidSpot

# A piece has one place or two.
MOST_PLACES = 2

# What a watcher costs at most.
MOST_PRICE = 1000


def is_whole(value):
    """Return whether a value is a whole number."""
    # Python takes Booleans for integers, the package never does.
    return isinstance(value, int) and not isinstance(value, bool)


def is_between(value, low, high):
    """Return whether a value is a whole number from low to high."""
    return is_whole(value) and low <= value <= high


def is_spot(value, n, places):
    """Return whether a value is a spot of a strip of n pieces with so many places each."""
    if not isinstance(value, tuple) or len(value) != 2:
        return False
    return is_between(value[0], 0, n - 1) and is_between(value[1], 0, places - 1)


def check_places(places):
    """Raise InvalidNumber unless it is a number of places that a piece may have."""
    if not is_between(places, 1, MOST_PLACES):
        raise InvalidNumber(places)


def check_count(n):
    """Raise InvalidNumber unless n is a number of pieces."""
    if not is_whole(n) or n < 1:
        raise InvalidNumber(n)


def check_spot(spot, n, places):
    """Raise InvalidSpot unless it is a spot of a strip of n pieces with so many places each."""
    if not is_spot(spot, n, places):
        raise InvalidSpot(spot)


def check_prices(prices, places):
    """Raise InvalidPrices unless it is a list of as many prices as there are places."""
    if not isinstance(prices, list) or len(prices) != places:
        raise InvalidPrices(prices)
    if not all([is_between(cost, 0, MOST_PRICE) for cost in prices]):
        raise InvalidPrices(prices)


def check_ring(ring):
    """Raise InvalidNumber unless ring is a Boolean."""
    if not isinstance(ring, bool):
        raise InvalidNumber(ring)
