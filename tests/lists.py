"""Lists of numbers for the tests, and the rules of DOC.md [9] and [10] for them, written as they stand there."""

import itertools
import random


def all_lists(behind, length):
    """Return all lists of at most so many numbers below a bound."""
    return [list(row) for many in range(length + 1) for row in itertools.product(range(behind), repeat=many)]


def in_lots(size, numbers):
    """Tell whether each number is the least number of its lot that is not ahead of it."""
    for place, number in enumerate(numbers):
        first = number // size * size
        ahead = [other for other in numbers[:place] if first <= other < first + size]
        if number != first + len(ahead) or sorted(ahead) != list(range(first, number)):
            return False
    return True


def is_finished(size, lot, ahead):
    return len([number for number in ahead if number // size == lot]) == size


def digit_at(size, numbers, place):
    lots = range(numbers[place] // size)
    return len([lot for lot in lots if not is_finished(size, lot, numbers[:place])])


def heard_below(size, numbers, place):
    return len({number // size for number in numbers[place + 1:] if number // size < numbers[place] // size})


def unfinished_at(size, numbers, place):
    greatest = max(numbers[:place + 1]) // size
    return len([lot for lot in range(greatest + 1) if not is_finished(size, lot, numbers[:place])])


def heard_at(size, numbers, place):
    greatest = max(numbers[:place + 1]) // size
    return len({number // size for number in numbers[place:] if number // size <= greatest})


def needed_houses(scheme, numbers):
    """Return the least number of houses with which the list is a book by the rules of [9], None without one."""
    kind = scheme[0]
    if kind == "late":
        return 1 if numbers == list(range(len(numbers))) else None
    size = 1 if kind == "pool" else scheme[1]
    if kind != "lost":
        if not in_lots(size, numbers):
            return None
        return 1 + max([digit_at(size, numbers, place) for place in range(len(numbers))], default=0)
    if len(set(numbers)) < len(numbers):
        return None
    needed = 1
    for place, number in enumerate(numbers):
        ahead = [other for other in numbers[:place] if other // size == number // size]
        if ahead and max(ahead) > number:
            return None
        if not ahead:
            needed = max(needed, 1 + heard_below(size, numbers, place))
    return needed


def told_book(scheme, houses, numbers):
    needed = needed_houses(scheme, numbers)
    return needed is not None and needed <= houses


def told_fault(scheme, houses, numbers):
    for place in range(len(numbers)):
        if not told_book(scheme, houses, numbers[:place + 1]):
            return place
    return None


def lot_list(size, lots, length, seed):
    """Return a list of numbers that lies in so many lots, always the same one for the same arguments."""
    source = random.Random(seed)
    ahead = {lot: 0 for lot in range(lots)}
    numbers = []
    while len(numbers) < length and ahead:
        lot = source.choice(list(ahead))
        numbers.append(lot * size + ahead[lot])
        ahead[lot] += 1
        if ahead[lot] == size:
            del ahead[lot]
    return numbers


def mixed_digits(houses, length, seed):
    source = random.Random(seed)
    return [source.randrange(houses) for _ in range(length)]


def book_by_rule(size, houses, length, seed):
    """Return a book of again: each number is the next one of an unfinished lot with few enough below it."""
    ahead = {}
    numbers = []
    for digit in mixed_digits(houses, length, seed):
        lots = (lot for lot in itertools.count() if ahead.get(lot, 0) < size)
        lot = next(itertools.islice(lots, digit, None))
        numbers.append(lot * size + ahead.get(lot, 0))
        ahead[lot] = ahead.get(lot, 0) + 1
    return numbers


def lost_book(size, houses, length, seed, behind=None):
    """Return a book of lost without falls, with many numbers that fail, up to the first number that is too great."""
    source = random.Random(seed)
    rests = {}
    lots_taken = 0
    numbers = []
    while len(numbers) < length:
        house = source.randrange(houses)
        if house not in rests:
            rests[house] = list(range(lots_taken * size, lots_taken * size + size))
            lots_taken += 1
        number = rests[house].pop(0)
        if behind is not None and number >= behind:
            break
        if not rests[house]:
            del rests[house]
        if source.random() < 0.6:
            numbers.append(number)
    return numbers
