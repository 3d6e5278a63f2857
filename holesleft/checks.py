"""What several modules ask of their arguments."""

from holesleft.errors import InvalidHouses, InvalidNumber, InvalidNumbers, InvalidSize, InvalidWeaving

MOST_HOUSES = 20
MOST_EVENTS = 800
MOST_NUMBERS = 200
GREATEST_SIZE = 10 ** 30 - 1
EVENT_WORDS = ("take", "end", "fail", "fall")


def is_integer(value):
    """Tell whether a value is an integer."""
    # Python counts True and False as integers, the document does not.
    return isinstance(value, int) and not isinstance(value, bool)


def is_within(value, least, greatest):
    """Tell whether a value is an integer from least to greatest."""
    return is_integer(value) and least <= value <= greatest


def is_natural(value):
    """Tell whether a value is an integer from 0 on."""
    return is_integer(value) and value >= 0


def is_size(value):
    """Tell whether a value is a size of lots."""
    return is_within(value, 1, GREATEST_SIZE)


def is_event(houses, value):
    """Tell whether a value is an event of these houses, wherever it stands."""
    if not isinstance(value, tuple) or len(value) != 2:
        return False
    word, house = value
    return isinstance(word, str) and word in EVENT_WORDS and is_within(house, 0, houses - 1)


def can_happen(word, busy):
    """Tell whether an event with this word can follow for a house that is busy with a deed, or is not."""
    if word == "fall":
        return True
    if word == "take":
        return not busy
    return busy


def weaving_fault(houses, events):
    """Return the index of the first item of a list that cannot stand there in a weaving, or None."""
    busy = [False] * houses
    for index, event in enumerate(events):
        if not is_event(houses, event):
            return index
        word, house = event
        if not can_happen(word, busy[house]):
            return index
        busy[house] = word == "take"
    return None


def is_event_list(value):
    """Tell whether a value is a list that is short enough for a weaving."""
    return isinstance(value, list) and len(value) <= MOST_EVENTS


def is_short_list(value):
    """Tell whether a value is a list that is short enough for numbers."""
    return isinstance(value, list) and len(value) <= MOST_NUMBERS


def is_number_list(value):
    """Tell whether a value is a list of numbers throughout."""
    return is_short_list(value) and all([is_natural(item) for item in value])


def check_houses(houses):
    """Raise InvalidHouses unless this is a number of houses."""
    if not is_within(houses, 1, MOST_HOUSES):
        raise InvalidHouses("houses: an integer from 1 to 20 is needed")


def check_weaving(houses, weaving):
    """Raise InvalidWeaving unless this is a weaving of the houses."""
    if not is_event_list(weaving):
        raise InvalidWeaving(None)
    fault = weaving_fault(houses, weaving)
    if fault is not None:
        raise InvalidWeaving(fault)


def check_size(size):
    """Raise InvalidSize unless this is a size of lots."""
    if not is_size(size):
        raise InvalidSize("size: an integer from 1 to 10 ** 30 - 1 is needed")


def check_numbers(numbers):
    """Raise InvalidNumbers unless this is a list of numbers."""
    if not is_short_list(numbers):
        raise InvalidNumbers(None)
    for index, number in enumerate(numbers):
        if not is_natural(number):
            raise InvalidNumbers(index)


def check_within(value, least, greatest):
    """Raise InvalidNumber unless this is an integer from least to greatest."""
    if not is_within(value, least, greatest):
        raise InvalidNumber(f"an integer from {least} to {greatest} is needed")


def check_natural(value):
    """Raise InvalidNumber unless this is an integer from 0 on."""
    if not is_natural(value):
        raise InvalidNumber("an integer from 0 on is needed")


def check_house_number(houses, house):
    """Raise InvalidNumber unless this is one of the houses."""
    if not is_within(house, 0, houses - 1):
        raise InvalidNumber("house: one of the houses is needed")
