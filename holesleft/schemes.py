"""Schemes and weavings, and what can be read off a weaving without a scheme."""

from holesleft.checks import can_happen, check_house_number, check_houses, check_weaving
from holesleft.checks import EVENT_WORDS, is_event_list, is_size, weaving_fault
from holesleft.errors import InvalidScheme

ORDERS = ("least", "greatest", "oldest", "newest")


def is_scheme(value):
    """Tell whether any value is a scheme."""
    if not isinstance(value, tuple) or len(value) not in (1, 2):
        return False
    kind = value[0]
    # An object of another kind could claim to be equal to a word.
    if not isinstance(kind, str):
        return False
    if len(value) == 1:
        return kind == "late"
    if kind == "pool":
        return isinstance(value[1], str) and value[1] in ORDERS
    return kind in ("lost", "again") and is_size(value[1])


def check_scheme(value):
    """Raise InvalidScheme unless this is a scheme."""
    if not is_scheme(value):
        raise InvalidScheme("a scheme is needed")


def check_run(scheme, houses, weaving):
    """Raise an error unless this is a scheme with houses and a weaving of them."""
    check_scheme(scheme)
    check_houses(houses)
    check_weaving(houses, weaving)


def is_weaving(houses, value):
    """Tell whether any value is a weaving of these houses."""
    check_houses(houses)
    return is_event_list(value) and weaving_fault(houses, value) is None


def can_follow(houses, weaving):
    """Return the list of all events that can follow a weaving."""
    check_houses(houses)
    check_weaving(houses, weaving)
    busy = [False] * houses
    for word, house in weaving:
        busy[house] = word == "take"
    return [(word, house) for house in range(houses) for word in EVENT_WORDS if can_happen(word, busy[house])]


def deeds_of(houses, weaving):
    """Return a tuple (house, begin, finish, outcome) for each deed, in the sequence of their begins."""
    check_houses(houses)
    check_weaving(houses, weaving)
    deeds = []
    places = [None] * houses
    for index, (word, house) in enumerate(weaving):
        place = places[house]
        if word == "take":
            places[house] = len(deeds)
            deeds.append((house, index, None, "open"))
        elif place is not None:
            # A fall can also come without a deed, an end or a fail cannot.
            deeds[place] = (house, deeds[place][1], index, word)
            places[house] = None
    return deeds


def without_house(houses, weaving, house):
    """Return the weaving without the events of one house; the others keep their numbers."""
    check_houses(houses)
    check_weaving(houses, weaving)
    check_house_number(houses, house)
    return [event for event in weaving if event[1] != house]
