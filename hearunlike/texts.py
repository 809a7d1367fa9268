"""Texts of plans: a sign for each place of each piece."""

from hearunlike.checks import MOST_PLACES, check_places
from hearunlike.errors import InvalidNumber, InvalidPlan, InvalidText
from hearunlike.plans import are_pieces

TAKEN_SIGNS = "oO"
SIGNS = "oO."


def text_of(plan, places):
    """Return the text of a plan for strips with so many places a piece."""
    if not are_pieces(plan, MOST_PLACES) or len(plan) == 0:
        raise InvalidPlan(plan)
    check_places(places)
    if not are_pieces(plan, places):
        raise InvalidNumber(places)
    return " ".join([signs_of(piece, places) for piece in plan])


def read_plan(text, places):
    """Return the plan of a text for strips with so many places a piece."""
    check_places(places)
    if not isinstance(text, str):
        raise InvalidText(text)
    words = words_of(text)
    if len(words) == 0 or not all([is_word(word, places) for word in words]):
        raise InvalidText(text)
    return [piece_of(word[at:at + places]) for word in words for at in range(0, len(word), places)]


def signs_of(piece, places):
    """Return the signs of a piece."""
    return "".join(["o" if place in piece else "." for place in range(places)])


def words_of(text):
    """Return the words of a text: what stands between blanks and line ends."""
    # Without its argument, split would take other signs than these two for blanks.
    return [word for word in text.replace("\n", " ").split(" ") if word != ""]


def is_word(word, places):
    """Return whether a word is made of the signs of whole pieces."""
    return len(word) % places == 0 and all([sign in SIGNS for sign in word])


def piece_of(signs):
    """Return the piece of the signs of its places."""
    return [place for place, sign in enumerate(signs) if sign in TAKEN_SIGNS]
