"""With how few falls, or failed deeds, a book is possible."""

from holesleft.checks import check_houses, check_numbers, check_size
from holesleft.errors import TooFewHouses, TooLong
from holesleft.faults import check_book
from holesleft.lots import LotCounts, check_lots, greatest_lot, last_places
from holesleft.weavers import weaving_by_lots

MOST_PAIRS = 200
FALLS_LIMIT = 150
FAILS_LIMIT = 500


def _check_list_in_lots(size, numbers):
    check_numbers(numbers)
    check_lots(size, numbers)


def unfinished_along(size, numbers):
    """Return the list of the numbers of taken lots that are unfinished at each place."""
    check_size(size)
    _check_list_in_lots(size, numbers)
    return _unfinished(size, numbers)


def _unfinished(size, numbers):
    counts = LotCounts(size)
    rows = []
    greatest = -1
    for number in numbers:
        greatest = max(greatest, number // size)
        rows.append(counts.unfinished_below(greatest + 1))
        counts.put(number)
    return rows


def heard_along(size, numbers):
    """Return the list of the numbers of taken lots that are heard at each place or behind it."""
    check_size(size)
    _check_list_in_lots(size, numbers)
    return _heard(size, numbers)


def _heard(size, numbers):
    lots = [number // size for number in numbers]
    rows = []
    greatest = -1
    for place, lot in enumerate(lots):
        greatest = max(greatest, lot)
        rows.append(len({other for other in lots[place:] if other <= greatest}))
    return rows


def _most_unfinished(size, numbers):
    return max(_unfinished(size, numbers), default=1)


def _most_heard(size, numbers):
    return max(_heard(size, numbers), default=1)


def houses_and_falls(size, numbers):
    """Return the ascending list of the tuples (houses, fewest falls), at most 200 of them."""
    check_size(size)
    _check_list_in_lots(size, numbers)
    least = _most_heard(size, numbers)
    enough = _most_unfinished(size, numbers)
    behind = min(enough + 1, least + MOST_PAIRS)
    return [(houses, enough - houses) for houses in range(least, behind)]


def fewest_falls(size, houses, numbers):
    """Return the fewest falls in a weaving of again with this book, None if the houses are too few."""
    check_size(size)
    check_houses(houses)
    _check_list_in_lots(size, numbers)
    if houses < _most_heard(size, numbers):
        return None
    return max(0, _most_unfinished(size, numbers) - houses)


def weaving_with_falls(size, houses, numbers):
    """Return a weaving of again with this book and the fewest falls."""
    check_size(size)
    check_houses(houses)
    _check_list_in_lots(size, numbers)
    least = _most_heard(size, numbers)
    if houses < least:
        raise TooFewHouses(least)
    if greatest_lot(size, numbers) > FALLS_LIMIT:
        raise TooLong(FALLS_LIMIT)
    # Each fall comes when all houses hold unfinished lots and one more must be taken, so there is none too many.
    return weaving_by_lots(houses, size, True, numbers)


def fewest_fails(size, houses, numbers):
    """Return the least number of fails in a weaving of lost, without falls, that has this book."""
    check_size(size)
    check_houses(houses)
    check_numbers(numbers)
    check_book(("lost", size), houses, numbers)
    greatest = greatest_lot(size, numbers)
    if greatest > FAILS_LIMIT:
        raise TooLong(FAILS_LIMIT)
    rests = _rests_behind_books(size, numbers, greatest + 1)
    # Numbers behind the last settled one of their lot need not fail; all others that are not settled must.
    must_fail = (greatest + 1) * size - sum(rests) - len(numbers)
    return must_fail + _fails_of_rests(size, houses, numbers, rests)


def _rests_behind_books(size, numbers, lots):
    """Return a list with, for each lot, how many of its numbers stand behind all of its numbers in the list."""
    rests = [size] * lots
    for number in numbers:
        # The numbers of each lot ascend, so the last one is the greatest.
        rests[number // size] = size - 1 - number % size
    return rests


def _fails_of_rests(size, houses, numbers, rests):
    """Return how many numbers behind the last settled one of their lot must fail, since houses need other lots."""
    last_place = last_places(size, numbers)
    fails = 0
    kept = []
    place = 0
    busy = []
    for lot in range(len(rests)):
        # A lot is best taken as late as possible: when it, or one above it, is first heard.
        while numbers[place] // size < lot:
            place += 1
        kept.extend([rests[other] for other in busy if last_place.get(other, -1) < place])
        busy = [other for other in busy if last_place.get(other, -1) >= place]
        # One house takes this lot; of the rests that the others could keep, the greatest ones are kept.
        room = houses - 1 - len(busy)
        kept = sorted(kept, reverse=True)
        fails += sum(kept[room:])
        kept = kept[:room]
        busy.append(lot)
    return fails
