"""Books of again, without falls, as words of digits: how many there are, and which one stands where."""

from holesleft.checks import MOST_NUMBERS, check_houses, check_numbers, check_size, check_within, is_number_list
from holesleft.checks import is_within
from holesleft.errors import InvalidDigits, InvalidIndex
from holesleft.faults import check_book
from holesleft.lots import LotCounts, check_lots, word_of

MOST_PER_LOT = 6
MOST_LOTS = 8


def digits_of(size, numbers):
    """Return the list of the digits of the numbers."""
    check_size(size)
    check_numbers(numbers)
    check_lots(size, numbers)
    return word_of(size, numbers)


def book_of_digits(size, digits):
    """Return the book with these digits."""
    check_size(size)
    if not is_number_list(digits):
        raise InvalidDigits("digits: a list of at most 200 integers from 0 on is needed")
    return _spelled(size, digits)


def _spelled(size, digits):
    counts = LotCounts(size)
    numbers = []
    for digit in digits:
        number = counts.next_of(counts.unfinished_lot(digit))
        numbers.append(number)
        counts.put(number)
    return numbers


def next_numbers(size, houses, numbers):
    """Return the ascending list of the numbers that can come next in a book."""
    check_size(size)
    check_houses(houses)
    check_numbers(numbers)
    check_book(("again", size), houses, numbers)
    counts = LotCounts(size)
    for number in numbers:
        counts.put(number)
    return [counts.next_of(counts.unfinished_lot(digit)) for digit in range(houses)]


def count_books(houses, length):
    """Return the number of books of so many numbers."""
    check_houses(houses)
    check_within(length, 0, MOST_NUMBERS)
    return _many_words(houses, length)


def _many_words(houses, length):
    many = 1
    for _ in range(length):
        many *= houses
    return many


def nth_book(size, houses, length, index):
    """Return the book of so many numbers with this index, in ascending order."""
    check_size(size)
    check_houses(houses)
    check_within(length, 0, MOST_NUMBERS)
    if not is_within(index, 0, _many_words(houses, length) - 1):
        raise InvalidIndex("index: an integer from 0 on that is less than the number of books is needed")
    digits = []
    left = index
    for _ in range(length):
        left, digit = divmod(left, houses)
        digits.append(digit)
    return _spelled(size, digits[::-1])


def book_index(size, houses, numbers):
    """Return the index of a book among the books of the same length, in ascending order."""
    check_size(size)
    check_houses(houses)
    check_numbers(numbers)
    check_book(("again", size), houses, numbers)
    index = 0
    for digit in word_of(size, numbers):
        index = index * houses + digit
    return index


def count_by_holes(houses, length):
    """Return a list with the numbers of books, for lots of one, that leave no hole, one hole, and so on."""
    check_houses(houses)
    check_within(length, 0, MOST_NUMBERS)
    many = [1] + [0] * (houses - 1)
    for _ in range(length):
        many = _one_longer(many)
    return many


def _one_longer(many):
    longer = [0] * len(many)
    for holes, books in enumerate(many):
        for digit in range(len(many)):
            # A digit below the number of holes fills one; another one is that of a new greatest number.
            left = holes - 1 if digit < holes else digit
            longer[left] += books
    return longer


def count_full(per_lot, houses, lots):
    """Return how many lists, in which each number of so many full lots stands once, are books."""
    check_within(per_lot, 1, MOST_PER_LOT)
    check_houses(houses)
    check_within(lots, 1, MOST_LOTS)
    reached = min(houses, lots)
    ways = {(lots - reached, (per_lot,) * reached): 1}
    for _ in range(per_lot * lots):
        ways = _one_number_on(per_lot, ways)
    return sum(ways.values())


def _one_number_on(per_lot, ways):
    """Return the ways behind one more number, told by the untouched lots and the numbers left of those in reach."""
    longer = {}
    for (untouched, left), many in ways.items():
        for place in range(len(left)):
            state = _state_behind(per_lot, untouched, left, place)
            longer[state] = longer.get(state, 0) + many
    return longer


def _state_behind(per_lot, untouched, left, place):
    others = [*left[:place], *left[place + 1:]]
    if left[place] > 1:
        return (untouched, tuple(sorted([*others, left[place] - 1])))
    if untouched > 0:
        return (untouched - 1, tuple(sorted([*others, per_lot])))
    return (0, tuple(others))
