"""Stretches: ascending tuples (first, last) that stand for many numbers."""


def joined(parts):
    """Return the stretches, as few as possible, of parts (first, last) that have no number in common."""
    rows = []
    for first, last in sorted(parts):
        if rows and rows[-1][1] == first - 1:
            rows[-1] = (rows[-1][0], last)
        else:
            rows.append((first, last))
    return rows


def gaps(numbers):
    """Return the stretches of the numbers from 0 on that are less than the greatest of these and are none of them."""
    rows = []
    start = 0
    for number in sorted(numbers):
        if start < number:
            rows.append((start, number - 1))
        start = number + 1
    return rows
