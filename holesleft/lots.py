"""Lists of numbers that lie in lots: which number of a lot comes next, and which lots are unfinished."""

from holesleft.errors import NotABook


class LotCounts:
    """How many numbers of each lot stand ahead of a place in a list that lies in lots."""

    def __init__(self, size):
        self.size = size
        self.many_ahead = {}
        self.finished = []

    def next_of(self, lot):
        """Return the least number that is not ahead, of a lot that is unfinished."""
        return lot * self.size + self.many_ahead.get(lot, 0)

    def can_come(self, number):
        """Tell whether a number is the least one of its lot that is not ahead."""
        return number == self.next_of(number // self.size)

    def put(self, number):
        """Go on behind a number that can come."""
        lot = number // self.size
        self.many_ahead[lot] = self.many_ahead.get(lot, 0) + 1
        if self.many_ahead[lot] == self.size:
            self.finished = sorted(self.finished + [lot])

    def unfinished_below(self, lot):
        """Return how many lots below a lot are unfinished."""
        return lot - len([other for other in self.finished if other < lot])

    def unfinished_lot(self, digit):
        """Return the lot that is unfinished and has so many unfinished lots below it."""
        lot = digit
        for other in self.finished:
            if other <= lot:
                lot += 1
        return lot


def lots_fault(size, numbers):
    """Return the index of the first number that is not the least one of its lot that is not ahead, or None."""
    counts = LotCounts(size)
    for index, number in enumerate(numbers):
        if not counts.can_come(number):
            return index
        counts.put(number)
    return None


def check_lots(size, numbers):
    """Raise NotABook unless the list lies in lots."""
    fault = lots_fault(size, numbers)
    if fault is not None:
        raise NotABook(fault)


def word_of(size, numbers):
    """Return the list of the digits of numbers that lie in lots."""
    counts = LotCounts(size)
    digits = []
    for number in numbers:
        digits.append(counts.unfinished_below(number // size))
        counts.put(number)
    return digits


def last_places(size, numbers):
    """Return a dict that tells, for each lot that is in the list, the place of its last number."""
    return {number // size: place for place, number in enumerate(numbers)}


def greatest_lot(size, numbers):
    """Return the greatest lot that has a number in the list, -1 for the empty list."""
    return max(numbers, default=-1) // size
