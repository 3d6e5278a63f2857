"""Which lists of numbers are books without falls, for how many houses, and by which weavings."""

from holesleft.checks import check_houses, check_numbers, check_size, is_number_list
from holesleft.errors import TooLong
from holesleft.faults import check_book, fault_of, late_fault, lot_size, order_fault
from holesleft.lots import lots_fault, word_of
from holesleft.schemes import check_scheme
from holesleft.weavers import weaving_by_lots

LOST_LIMIT = 200


def is_book(scheme, houses, value):
    """Tell whether any value is a book of the scheme with so many houses."""
    check_scheme(scheme)
    check_houses(houses)
    return is_number_list(value) and fault_of(scheme, houses, value) is None


def book_fault(scheme, houses, numbers):
    """Return the index of the first number by which the list is no book, or None."""
    check_scheme(scheme)
    check_houses(houses)
    check_numbers(numbers)
    return fault_of(scheme, houses, numbers)


def least_houses(scheme, numbers):
    """Return the least number of houses with which the list is a book, None if there is none."""
    check_scheme(scheme)
    check_numbers(numbers)
    if scheme[0] == "late":
        return 1 if late_fault(numbers) is None else None
    size = lot_size(scheme)
    if scheme[0] == "lost":
        if order_fault(size, numbers) is not None:
            return None
        return max(_heard_below(size, numbers), default=0) + 1
    if lots_fault(size, numbers) is not None:
        return None
    return max(word_of(size, numbers), default=0) + 1


def lots_heard(size, numbers):
    """Return a list with, for each number, how many lots below its own lot have a number behind its place."""
    check_size(size)
    check_numbers(numbers)
    return _heard_below(size, numbers)


def _heard_below(size, numbers):
    lots = [number // size for number in numbers]
    return [len({other for other in lots[place + 1:] if other < lot}) for place, lot in enumerate(lots)]


def weaving_for(scheme, houses, numbers):
    """Return a weaving without falls whose book this is."""
    check_scheme(scheme)
    check_houses(houses)
    check_numbers(numbers)
    check_book(scheme, houses, numbers)
    if scheme[0] == "late":
        return [(word, 0) for number in numbers for word in ("take", "end")]
    if scheme[0] == "lost" and max(numbers, default=0) >= LOST_LIMIT:
        raise TooLong(LOST_LIMIT)
    # Of a book of again no lot is given up, so no house falls; without fails a pool deals like lots of one.
    return weaving_by_lots(houses, lot_size(scheme), scheme[0] != "lost", numbers)
