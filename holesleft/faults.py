"""Where a list of numbers stops being a book of a scheme without falls."""

from holesleft.errors import NotABook
from holesleft.lots import LotCounts


def late_fault(numbers):
    """Return the index of the first number by which the list is no book of late, or None."""
    for index, number in enumerate(numbers):
        if number != index:
            return index
    return None


def again_fault(size, houses, numbers):
    """Return the index of the first number by which the list is no book of again, or None."""
    counts = LotCounts(size)
    for index, number in enumerate(numbers):
        if not counts.can_come(number) or counts.unfinished_below(number // size) >= houses:
            return index
        counts.put(number)
    return None


def order_fault(size, numbers):
    """Return the index of the first number that is not greater than those of its lot ahead of it, or None."""
    greatest = {}
    for index, number in enumerate(numbers):
        lot = number // size
        if number <= greatest.get(lot, -1):
            return index
        greatest[lot] = number
    return None


def crowd_fault(size, houses, numbers):
    """Return the index of the first number by which too many lots are heard below another one, or None."""
    first_place = {}
    last_place = {}
    many_below = {}
    for index, number in enumerate(numbers):
        lot = number // size
        for other, place in first_place.items():
            # The lot counts once, when it is first heard behind this place.
            if other > lot and place > last_place.get(lot, -1):
                many_below[other] += 1
                if many_below[other] == houses:
                    return index
        if lot not in first_place:
            first_place[lot] = index
            many_below[lot] = 0
        last_place[lot] = index
    return None


def lost_fault(size, houses, numbers):
    """Return the index of the first number by which the list is no book of lost, or None."""
    faults = [order_fault(size, numbers), crowd_fault(size, houses, numbers)]
    return min([fault for fault in faults if fault is not None], default=None)


def lot_size(scheme):
    """Return the size of the lots by which a scheme's books are told; a pool's are those of lots of one."""
    return 1 if scheme[0] == "pool" else scheme[1]


def fault_of(scheme, houses, numbers):
    """Return the index of the first number by which the list is no book of the scheme, or None."""
    if scheme[0] == "late":
        return late_fault(numbers)
    if scheme[0] == "lost":
        return lost_fault(scheme[1], houses, numbers)
    return again_fault(lot_size(scheme), houses, numbers)


def check_book(scheme, houses, numbers):
    """Raise NotABook unless the list is a book of the scheme."""
    fault = fault_of(scheme, houses, numbers)
    if fault is not None:
        raise NotABook(fault)
