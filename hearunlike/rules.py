"""Rules, which tell plans for strips of many lengths: a head, a block many times, a tail."""

from hearunlike.checks import MOST_PLACES, check_ring, is_whole
from hearunlike.errors import InvalidList, InvalidNumber, InvalidRule
from hearunlike.plans import are_pieces, check_needs, fault
from hearunlike.webs import check_web


class Rule:
    """A head, a block that is put behind it any number of times, and a tail."""

    def __init__(self, head, block, tail):
        check_pieces(head, 0)
        check_pieces(block, 1)
        check_pieces(tail, 0)
        self._head = copied(head)
        self._block = copied(block)
        self._tail = copied(tail)

    def plan(self, many):
        """Return the plan made of the head, the block so many times, and the tail."""
        if not is_whole(many) or many < least_many(self):
            raise InvalidNumber(many)
        return copied(self._head + self._block * many + self._tail)

    def parts(self):
        """Return the tuple of the head, the block and the tail."""
        return (copied(self._head), copied(self._block), copied(self._tail))

    def __eq__(self, other):
        return (isinstance(other, Rule) and self._head == other._head and self._block == other._block
                and self._tail == other._tail)


def rule_fault(web, rule, needs, *, ring=False):
    """Return the least number whose plan is not good, with its fault, or None if all plans are good."""
    check_web(web)
    check_rule(web, rule)
    check_needs(needs)
    check_ring(ring)
    for many in range(least_many(rule), deciding_many(web, rule) + 1):
        found = fault(web, rule.plan(many), needs, ring=ring)
        if found is not None:
            return (many, found)
    return None


def least_many(rule):
    """Return the least number of blocks with which a rule makes a plan."""
    head, _, tail = rule.parts()
    # A plan has a piece at least.
    return 0 if len(head) + len(tail) > 0 else 1


def deciding_many(web, rule):
    """Return a number of blocks beyond which nothing new happens in the plans of a rule."""
    # Two spots with a common hearer, and all who hear them, are in a window of 4 * reach + 1 pieces. As soon as
    # the blocks have 4 * reach pieces, no window holds pieces of the head and of the tail with all blocks between
    # them; with one more block the windows within the blocks begin at each piece of a block.
    block = rule.parts()[1]
    return 1 + (4 * web.reach + len(block) - 1) // len(block)


def check_pieces(value, least):
    """Raise InvalidList unless it is a list of at least so many pieces."""
    # A rule belongs to no web: its places are those that a piece of any web may have.
    if not are_pieces(value, MOST_PLACES) or len(value) < least:
        raise InvalidList(value)


def check_rule(web, rule):
    """Raise InvalidRule unless it is a rule all of whose places are places of a web."""
    if not isinstance(rule, Rule):
        raise InvalidRule(rule)
    if not all([are_pieces(part, web.places) for part in rule.parts()]):
        raise InvalidRule(rule)


def copied(pieces):
    """Return a new list of new pieces."""
    return [list(piece) for piece in pieces]
