"""Which wishes a rule grants, which weavings break the others, and which wishes can be granted together."""

from holesleft.checks import MOST_EVENTS, check_houses
from holesleft.errors import InvalidFlag, InvalidWish, InvalidWishes, TooLong
from holesleft.faults import lot_size
from holesleft.rules import check_rule, is_scheme_with_budget

WISHES = ("early", "full", "rest", "ascending", "kept", "free")
IN_SEQUENCE = ("full", "rest", "ascending")


def is_rule(value):
    """Tell whether any value is a rule."""
    return is_scheme_with_budget(value)


def _is_wish(value):
    # An object of another kind could claim to be equal to a wish.
    return isinstance(value, str) and value in WISHES


def _check_falls(falls):
    if not isinstance(falls, bool):
        raise InvalidFlag("falls: True or False is needed")


def _check_wish(rule, houses, falls, wish):
    check_rule(rule)
    check_houses(houses)
    _check_falls(falls)
    if not _is_wish(wish):
        raise InvalidWish("wish: one of the six wishes is needed")


def _check_wishes(wishes, houses, falls):
    if not isinstance(wishes, list) or not all([_is_wish(wish) for wish in wishes]):
        raise InvalidWishes("wishes: a list of wishes is needed")
    if len(set(wishes)) < len(wishes):
        raise InvalidWishes("wishes: no wish can stand there twice")
    check_houses(houses)
    _check_falls(falls)


def grants(rule, houses, falls, wish):
    """Tell whether the rule grants the wish."""
    _check_wish(rule, houses, falls, wish)
    return _way_to_break(rule, houses, falls, wish) is None


def breaking_weaving(rule, houses, falls, wish):
    """Return a shortest weaving by whose last event the wish is broken, None if the rule grants it."""
    _check_wish(rule, houses, falls, wish)
    way = _way_to_break(rule, houses, falls, wish)
    if way is None:
        return None
    # A way can be far too long to be written down.
    turn, many, ending = way
    if many * len(turn) + len(ending) > MOST_EVENTS:
        raise TooLong(MOST_EVENTS)
    return turn * many + ending


def _way_to_break(rule, houses, falls, wish):
    """Return a tuple (turn, many, ending): a turn of events, how often it comes, and the events behind it, or None."""
    scheme, budget = rule
    kind = scheme[0]
    if wish == "early":
        return ([], 0, [("take", 0)]) if kind == "late" else None
    if wish == "free":
        return None if budget is None else _way_to_refusal(rule, houses, falls)
    if wish == "kept":
        if kind == "lost":
            return ([], 0, [("take", 0), ("fail", 0)])
        return ([], 0, [("take", 0), ("fall", 0)]) if kind == "again" and falls else None
    # With the budget 0 there is never a hole, and nothing is settled below a hole.
    if kind == "late" or budget == 0:
        return None
    if houses > 1:
        return _way_by_two(rule, wish)
    return _way_by_one(rule, falls, wish)


def _way_to_refusal(rule, houses, falls):
    """Return the way to a refused take: lots, or open deeds, are kept or lost until they are more than the budget."""
    scheme, budget = rule
    lots = budget // lot_size(scheme) + 1
    kept = min(lots, houses - 1)
    if kept < lots and not (falls and scheme[0] == "again"):
        return None
    takes = [("take", house) for house in range(1, kept + 1)]
    return ([("take", 0), ("fall", 0)], lots - kept, takes + [("take", 0)])


def _many_before_next_lot(rule):
    """Return how many numbers of the first lot must be settled before the next lot is not refused."""
    scheme, budget = rule
    return 0 if budget is None else max(0, lot_size(scheme) - budget)


def _way_by_two(rule, wish):
    """Return the way in which house 1 settles a number above some that house 0 still keeps."""
    many = _many_before_next_lot(rule)
    ending = [("take", 1), ("end", 1)]
    if many == 0:
        ending = [("take", 0), *ending]
        if wish == "rest":
            ending.append(("fail", 0))
    elif wish == "ascending":
        ending.append(("take", 0))
    if wish == "ascending":
        ending.append(("end", 0))
    return ([("take", 0), ("end", 0)], many, ending)


def _way_by_one(rule, falls, wish):
    """Return the way in which a house loses numbers and settles a greater one; alone it settles them in sequence."""
    kind = rule[0][0]
    if wish == "ascending" or kind == "pool" or (kind == "again" and not falls):
        return None
    many = _many_before_next_lot(rule)
    losing = [] if many > 0 else [("take", 0)]
    losing.append(("fail" if kind == "lost" else "fall", 0))
    return ([("take", 0), ("end", 0)], many, losing + [("take", 0), ("end", 0)])


def can_have(wishes, houses, falls):
    """Tell whether some rule grants all of these wishes."""
    _check_wishes(wishes, houses, falls)
    return _can_grant(wishes, houses)


def _can_grant(wishes, houses):
    if houses == 1 or "early" not in wishes or "free" not in wishes:
        return True
    return not any([wish in wishes for wish in IN_SEQUENCE])


def rule_for(wishes, houses, falls):
    """Return a rule that grants all of these wishes, or None."""
    _check_wishes(wishes, houses, falls)
    if not _can_grant(wishes, houses):
        return None
    if "early" not in wishes:
        return (("late",), None)
    return (("pool", "least"), None if "free" in wishes else 0)
