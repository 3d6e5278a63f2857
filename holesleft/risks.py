"""How many holes there can be, and which takes a budget refuses."""

from holesleft.checks import check_houses, check_natural, check_weaving
from holesleft.dealing import dealing_behind, pending_parts
from holesleft.errors import InvalidScheme, TooLong
from holesleft.rules import check_rule, follow_rule
from holesleft.schemes import check_scheme

EVENTS_LIMIT = 100


def _check_counts(scheme, houses, fails, falls):
    check_scheme(scheme)
    check_houses(houses)
    check_natural(fails)
    check_natural(falls)


def most_holes(scheme, houses, fails, falls):
    """Return the greatest number of holes of all weavings with at most so many fails and falls."""
    _check_counts(scheme, houses, fails, falls)
    if scheme[0] == "late":
        return 0
    if scheme[0] == "pool":
        return houses - 1
    holes = (houses - 1 + falls) * scheme[1]
    return holes + fails if scheme[0] == "lost" else holes


def fullest_weaving(scheme, houses, fails, falls):
    """Return a weaving with at most so many fails and falls that ends with the greatest number of holes."""
    _check_counts(scheme, houses, fails, falls)
    if fails > EVENTS_LIMIT or falls > EVENTS_LIMIT:
        raise TooLong(EVENTS_LIMIT)
    # Where a fail or a fall makes no hole, it does no harm either: the last number is above all others.
    falling = [("take", 0), ("fall", 0)] * falls
    waiting = [("take", house) for house in range(1, houses)]
    failing = [("take", 0), ("fail", 0)] * fails
    return falling + waiting + failing + [("take", 0), ("end", 0)]


def _dealing_at_risk(scheme, houses, weaving):
    """Check the arguments and return the dealing behind all events."""
    check_scheme(scheme)
    if scheme[0] in ("late", "lost"):
        raise InvalidScheme("scheme: again or pool is needed")
    check_houses(houses)
    check_weaving(houses, weaving)
    return dealing_behind(scheme, houses, weaving)


def _worst_number(dealing):
    """Return the number that leaves the most holes if it is settled next, -1 if there is none."""
    # Settled alone, the greatest one leaves the most holes.
    return max([first for first, _ in pending_parts(dealing)], default=-1)


def risk_of(scheme, houses, weaving):
    """Return the greatest number of holes that can come, as long as the frontier stays as it is."""
    dealing = _dealing_at_risk(scheme, houses, weaving)
    return max(dealing.many_holes(), _worst_number(dealing) - len(dealing.settled))


def worst_ending(scheme, houses, weaving):
    """Return a list of events that can follow, behind which there are as many holes as the risk tells."""
    dealing = _dealing_at_risk(scheme, houses, weaving)
    number = _worst_number(dealing)
    if number - len(dealing.settled) <= dealing.many_holes():
        return []
    if number in dealing.in_hand:
        return [("end", dealing.in_hand.index(number))]
    if scheme[0] == "again":
        firsts = [None if part is None else part[0] for part in dealing.kept_parts()]
        takers = [firsts.index(number)]
    else:
        # There are never more pending numbers than houses, so houses without a deed can take all of the pool.
        free = [house for house in range(houses) if dealing.in_hand[house] is None]
        takers = free[:dealing.pooled.index(number) + 1]
    return [("take", house) for house in takers] + [("end", takers[-1])]


def _followed(rule, houses, weaving):
    check_rule(rule)
    check_houses(houses)
    check_weaving(houses, weaving)
    return follow_rule(rule, houses, weaving)


def refused_along(rule, houses, weaving):
    """Return the ascending list of the indexes of the refused takes."""
    _, refused = _followed(rule, houses, weaving)
    return refused


def kept_weaving(rule, houses, weaving):
    """Return the weaving of the events that happen."""
    happened, _ = _followed(rule, houses, weaving)
    return happened


def first_refused(rule, houses, weaving):
    """Return the index of the first refused take, or None."""
    _, refused = _followed(rule, houses, weaving)
    return refused[0] if refused else None
