"""Rules: schemes with a budget of holes, and the takes that they refuse."""

from holesleft.checks import is_natural
from holesleft.dealing import happen, new_dealing
from holesleft.errors import InvalidRule
from holesleft.schemes import is_scheme

KINDS_WITH_BUDGET = ("again", "pool")


def is_scheme_with_budget(value):
    """Tell whether any value is a rule."""
    if not isinstance(value, tuple) or len(value) != 2:
        return False
    scheme, budget = value
    if not is_scheme(scheme):
        return False
    return budget is None or (scheme[0] in KINDS_WITH_BUDGET and is_natural(budget))


def check_rule(rule):
    """Raise InvalidRule unless this is a rule."""
    if not is_scheme_with_budget(rule):
        raise InvalidRule("a rule is needed")


def is_refused(dealing, budget, house):
    """Tell whether a take of a house without an open deed is refused."""
    if budget is None:
        return False
    amount = dealing.amount_ahead(house)
    return amount is not None and amount > budget


def follow_rule(rule, houses, weaving):
    """Return the list of the events that happen, and that of the indexes of the refused takes."""
    scheme, budget = rule
    dealing = new_dealing(scheme, houses)
    sent_away = [False] * houses
    happened = []
    refused = []
    for index, event in enumerate(weaving):
        word, house = event
        if word == "take":
            sent_away[house] = is_refused(dealing, budget, house)
            if sent_away[house]:
                refused.append(index)
        elif word == "fall":
            sent_away[house] = False
        if not sent_away[house]:
            happened.append(event)
            happen(dealing, event)
    return happened, refused
