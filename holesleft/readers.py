"""What readers can trust: below the mark nothing is settled any more, above it numbers can come late."""

from holesleft.checks import check_houses, check_within, is_within
from holesleft.dealing import happen, mark_of, new_dealing
from holesleft.errors import InvalidLooks
from holesleft.faults import lot_size
from holesleft.schemes import check_run, check_scheme

MOST_DISTANCE = 300


def _check_looks(looks, many_events):
    if not isinstance(looks, list):
        raise InvalidLooks("looks: a list is needed")
    least = 0
    for look in looks:
        if not is_within(look, least, many_events):
            raise InvalidLooks("looks: integers up to the number of events are needed, none less than the one before")
        least = look


def marks_along(scheme, houses, weaving):
    """Return the list of the marks before the first event and behind each event."""
    check_run(scheme, houses, weaving)
    dealing = new_dealing(scheme, houses)
    marks = [mark_of(dealing)]
    for event in weaving:
        happen(dealing, event)
        marks.append(mark_of(dealing))
    return marks


def _settled_along(scheme, houses, weaving):
    """Return a list with the settled numbers, ascending, before the first event and behind each event."""
    dealing = new_dealing(scheme, houses)
    rows = [[]]
    for event in weaving:
        happen(dealing, event)
        rows.append(sorted(dealing.settled))
    return rows


def missed_by(scheme, houses, weaving, looks):
    """Return the settled numbers that are less than the greatest number seen, and were not seen."""
    check_run(scheme, houses, weaving)
    _check_looks(looks, len(weaving))
    rows = _settled_along(scheme, houses, weaving)
    greatest = -1
    seen = set()
    for look in looks:
        fresh = [number for number in rows[look] if number > greatest]
        for number in fresh:
            seen.add(number)
        greatest = max(fresh, default=greatest)
    return [number for number in rows[-1] if number < greatest and number not in seen]


def seen_below_marks(scheme, houses, weaving, looks):
    """Return a list with, for each look, the settled numbers below the mark that no look before it had."""
    check_run(scheme, houses, weaving)
    _check_looks(looks, len(weaving))
    rows = _settled_along(scheme, houses, weaving)
    marks = marks_along(scheme, houses, weaving)
    seen = []
    behind = 0
    for look in looks:
        # All settled numbers below the mark of the look before were settled then.
        seen.append([number for number in rows[look] if behind <= number < marks[look]])
        behind = marks[look]
    return seen


def late_weaving(scheme, houses, distance):
    """Return a weaving without falls that ends with a number less, by the distance or more, than one before."""
    check_scheme(scheme)
    check_houses(houses)
    check_within(distance, 1, MOST_DISTANCE)
    if scheme[0] == "late" or houses == 1:
        return None
    size = lot_size(scheme)
    # Each waiting house brings the last one a lot ahead; what is missing then, it settles number by number.
    waiting = min(houses - 1, (distance + size - 1) // size)
    many = max(1, distance + 1 - waiting * size)
    takes = [("take", house) for house in range(waiting)]
    return takes + [("take", waiting), ("end", waiting)] * many + [("end", 0)]
