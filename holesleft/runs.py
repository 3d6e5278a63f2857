"""What a weaving brings about under a scheme: its book, its open, lost and pending numbers, its holes."""

from holesleft.dealing import dealing_behind, happen, new_dealing, pending_parts
from holesleft.schemes import check_run
from holesleft.stretches import gaps, joined


def _checked_dealing(scheme, houses, weaving):
    check_run(scheme, houses, weaving)
    return dealing_behind(scheme, houses, weaving)


def numbers_along(scheme, houses, weaving):
    """Return a list with the number that each event deals, settles or leaves, or None."""
    check_run(scheme, houses, weaving)
    dealing = new_dealing(scheme, houses)
    return [happen(dealing, event) for event in weaving]


def book_of(scheme, houses, weaving):
    """Return the settled numbers, in the sequence of the ends."""
    return list(_checked_dealing(scheme, houses, weaving).settled)


def open_numbers_of(scheme, houses, weaving):
    """Return a list with the number of the open deed of each house, or None."""
    return list(_checked_dealing(scheme, houses, weaving).in_hand)


def rests_of(scheme, houses, weaving):
    """Return a list with the stretch of the pending numbers that each house keeps, or None."""
    return _checked_dealing(scheme, houses, weaving).kept_parts()


def pool_of(scheme, houses, weaving):
    """Return the numbers in the pool, in the sequence in which takes would deal them."""
    return list(_checked_dealing(scheme, houses, weaving).pooled)


def frontier_of(scheme, houses, weaving):
    """Return the least number that was never dealt, kept or lost in a lot that a house has taken."""
    return _checked_dealing(scheme, houses, weaving).first_undealt()


def lost_of(scheme, houses, weaving):
    """Return the stretches of the lost numbers."""
    return joined(_checked_dealing(scheme, houses, weaving).lost_parts)


def pending_of(scheme, houses, weaving):
    """Return the stretches of the pending numbers."""
    return joined(pending_parts(_checked_dealing(scheme, houses, weaving)))


def holes_of(scheme, houses, weaving):
    """Return the stretches of the holes."""
    return gaps(_checked_dealing(scheme, houses, weaving).settled)


def count_holes(scheme, houses, weaving):
    """Return the number of holes."""
    return _checked_dealing(scheme, houses, weaving).many_holes()


def holes_along(scheme, houses, weaving):
    """Return the list of the numbers of holes behind each event."""
    check_run(scheme, houses, weaving)
    dealing = new_dealing(scheme, houses)
    counts = []
    for event in weaving:
        happen(dealing, event)
        counts.append(dealing.many_holes())
    return counts
