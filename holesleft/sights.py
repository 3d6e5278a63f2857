"""What one house sees: the numbers that house 0 settles while the others do anything."""

from holesleft.checks import check_houses, check_numbers, is_number_list
from holesleft.errors import TooLong, Unseen
from holesleft.faults import late_fault
from holesleft.keepers import weaving_by_keepers
from holesleft.schemes import check_scheme

POOL_LIMIT = 20
OTHER_LIMIT = 200


def can_see(scheme, houses, value):
    """Tell whether any value is a list of numbers that house 0 can settle."""
    check_scheme(scheme)
    check_houses(houses)
    return is_number_list(value) and _fault(scheme, houses, value) is None


def sight_fault(scheme, houses, numbers):
    """Return the index of the first number by which house 0 cannot settle the list, or None."""
    check_scheme(scheme)
    check_houses(houses)
    check_numbers(numbers)
    return _fault(scheme, houses, numbers)


def _fault(scheme, houses, numbers):
    kind = scheme[0]
    if kind != "lost" and houses == 1:
        return late_fault(numbers)
    if kind == "pool":
        return _overtaken_fault(houses, numbers)
    return _lots_fault(scheme[1] if kind == "again" else 1, numbers)


def _lots_fault(size, numbers):
    """Return the index of the first number that neither goes on in a lot nor begins a greater one, or None."""
    last = -1
    for index, number in enumerate(numbers):
        # A lot that was begun must be full before the next one.
        if (last + 1) % size != 0:
            if number != last + 1:
                return index
        elif number <= last or number % size != 0:
            return index
        last = number
    return None


def _overtaken_fault(houses, numbers):
    """Return the index of the first number that is not new, or is one too many below one ahead of it, or None."""
    many_below = {}
    for index, number in enumerate(numbers):
        if number in many_below:
            return index
        for other in list(many_below):
            if other > number:
                many_below[other] += 1
                if many_below[other] == houses:
                    return index
        many_below[number] = 0
    return None


def see_weaving(scheme, houses, numbers):
    """Return a weaving without falls in which house 0 settles just these numbers."""
    check_scheme(scheme)
    check_houses(houses)
    check_numbers(numbers)
    fault = _fault(scheme, houses, numbers)
    if fault is not None:
        raise Unseen(fault)
    kind = scheme[0]
    limit = POOL_LIMIT if kind == "pool" else OTHER_LIMIT
    behind = max(numbers, default=-1) + 1
    if behind > limit:
        raise TooLong(limit)
    if kind == "pool":
        return weaving_by_keepers(houses, scheme[1], numbers)
    if kind == "lost":
        endings = [("end" if number in numbers else "fail", 0) for number in range(behind)]
    else:
        # House 1 deals all lots of which house 0 settles nothing, so each lot is dealt by one house.
        endings = [("end", 0 if number in numbers else 1) for number in range(behind)]
    return [event for ending in endings for event in (("take", ending[1]), ending)]
