"""When two ways of dealing have the same books, and which list parts them."""

from holesleft.checks import check_houses, check_numbers, check_within
from holesleft.faults import lot_size
from holesleft.lots import lots_fault
from holesleft.schemes import check_scheme

MOST_SIZES = 1000


def _checked_books(one, one_houses, other, other_houses):
    """Check the arguments and return what tells the books of both."""
    check_scheme(one)
    check_houses(one_houses)
    check_scheme(other)
    check_houses(other_houses)
    return _told_books(one, one_houses), _told_books(other, other_houses)


def _told_books(scheme, houses):
    """Return a tuple (kind, size, houses) that is the same for all schemes with the same books."""
    kind = "lost" if scheme[0] == "lost" else "again"
    # One house needs no lots, and late deals as one house does, however many there are.
    if houses == 1 or scheme[0] == "late":
        return (kind, 1, 1)
    return (kind, lot_size(scheme), houses)


def same_books(one, one_houses, other, other_houses):
    """Tell whether both schemes have the same books, with these numbers of houses."""
    first, second = _checked_books(one, one_houses, other, other_houses)
    return first == second


def parting_book(one, one_houses, other, other_houses):
    """Return the least one of the shortest lists that are books of just one of both, or None."""
    first, second = _checked_books(one, one_houses, other, other_houses)
    if first == second:
        return None
    if first[0] == second[0] == "lost":
        return _parting_lost(first, second)
    if first[0] == "lost":
        return [_least_barred(second)]
    if second[0] == "lost":
        return [_least_barred(first)]
    return [_least_unlike(first, second)]


def _least_barred(told):
    """Return the least number that cannot come first in a book of again; with lost all numbers can."""
    _, size, houses = told
    return houses if size == 1 else 1


def _least_unlike(first, second):
    """Return the least number that can come first in just one of two kinds of books of again."""
    firsts = _first_numbers(first)
    seconds = _first_numbers(second)
    return min([number for number in firsts + seconds if (number in firsts) != (number in seconds)])


def _first_numbers(told):
    _, size, houses = told
    return [lot * size for lot in range(houses)]


def _parting_lost(first, second):
    """Return the list that parts two kinds of books of lost: numbers of lower lots behind one of a greater lot."""
    # The one with fewer houses stands ahead; with one house its lots do not matter.
    (few, few_size), (_, many_size) = sorted([(told[2], told[1]) for told in (first, second)])
    if few > 1 and few_size != many_size:
        return [min(few_size, many_size), 0]
    return [few * many_size] + [lot * many_size for lot in range(few)]


def sizes_that_fit(numbers, most):
    """Return the ascending list of the sizes up to `most` for which the list lies in lots."""
    check_numbers(numbers)
    check_within(most, 1, MOST_SIZES)
    return [size for size in range(1, most + 1) if lots_fault(size, numbers) is None]
