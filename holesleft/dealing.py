"""How houses deal numbers, event by event, under each kind of scheme."""


class Dealing:
    """What is the same under all schemes: the settled numbers and those of the open deeds."""

    def __init__(self, houses):
        self.settled = []
        self.greatest = -1
        self.in_hand = [None] * houses
        self.lost_parts = []
        self.pooled = []

    def settle(self, number):
        """Write down the number of a deed that ended well."""
        self.settled.append(number)
        self.greatest = max(self.greatest, number)

    def put_down(self, house):
        """Close the deed of a house, if there is one, and return its number, or None."""
        number = self.in_hand[house]
        self.in_hand[house] = None
        return number

    def many_holes(self):
        """Return the number of holes."""
        # Settled numbers differ, so all others below the greatest one are holes.
        return self.greatest + 1 - len(self.settled)


class LateDealing(Dealing):
    """A deed gets its number when it ends well, so no house ever has one in hand."""

    def take(self, house):
        """Begin a deed, without a number."""
        return None

    def end(self, house):
        """End a deed of the house well."""
        number = self.first_undealt()
        self.settle(number)
        return number

    def fail(self, house):
        """End a deed of the house badly."""
        return None

    def fall(self, house):
        """Let the house fall."""
        return None

    def first_undealt(self):
        """Return the frontier."""
        return len(self.settled)

    def kept_parts(self):
        """Return a list with None for each house, since none keeps a number."""
        return [None for number in self.in_hand]


class LotDealing(Dealing):
    """Houses deal from lots; a failed number is dealt again or is lost."""

    def __init__(self, houses, size, deals_again):
        super().__init__(houses)
        self.size = size
        self.deals_again = deals_again
        self.lots_taken = 0
        self.rests = [None] * houses

    def take(self, house):
        """Begin a deed with the next number of the lot of the house."""
        if self.rests[house] is None:
            self.rests[house] = self.take_lot()
        self.in_hand[house] = self.rests[house][0]
        return self.in_hand[house]

    def end(self, house):
        """End a deed of the house well."""
        number = self.put_down(house)
        self.settle(number)
        self.drop_first(house)
        return number

    def fail(self, house):
        """End a deed of the house badly."""
        number = self.put_down(house)
        if not self.deals_again:
            self.lost_parts.append((number, number))
            self.drop_first(house)
        return number

    def fall(self, house):
        """Let the house fall: all that is left of its lot is lost."""
        number = self.put_down(house)
        if self.rests[house] is not None:
            self.lost_parts.append(self.rests[house])
            self.rests[house] = None
        return number

    def take_lot(self):
        """Take the first lot that no house has taken."""
        first = self.first_undealt()
        self.lots_taken += 1
        return (first, first + self.size - 1)

    def drop_first(self, house):
        """Take the first pending number out of the lot of the house; without numbers it is used up."""
        first, last = self.rests[house]
        self.rests[house] = (first + 1, last) if first < last else None

    def first_undealt(self):
        """Return the frontier."""
        return self.lots_taken * self.size

    def kept_parts(self):
        """Return a list with the stretch of the pending numbers of the lot of each house, or None."""
        return list(self.rests)

    def amount_ahead(self, house):
        """Return how many numbers would be unsettled below the next lot if the house takes it now, None if not."""
        if self.rests[house] is not None:
            return None
        # All numbers below the frontier that are not settled are pending or lost.
        return self.first_undealt() - len(self.settled)


class PoolDealing(Dealing):
    """Numbers are dealt one by one; failed ones wait in a pool."""

    def __init__(self, houses, order):
        super().__init__(houses)
        self.order = order
        self.many_dealt = 0

    def take(self, house):
        """Begin a deed with a number of the pool, or with the frontier."""
        if self.pooled:
            self.in_hand[house] = self.pooled.pop(0)
        else:
            self.in_hand[house] = self.many_dealt
            self.many_dealt += 1
        return self.in_hand[house]

    def end(self, house):
        """End a deed of the house well."""
        number = self.put_down(house)
        self.settle(number)
        return number

    def fail(self, house):
        """End a deed of the house badly: its number comes into the pool."""
        number = self.put_down(house)
        self.pool_number(number)
        return number

    def fall(self, house):
        """Let the house fall: the number of an open deed comes into the pool."""
        number = self.put_down(house)
        if number is not None:
            self.pool_number(number)
        return number

    def pool_number(self, number):
        """Put a number into the pool, which is kept in the sequence in which takes deal from it."""
        if self.order == "newest":
            self.pooled.insert(0, number)
        else:
            self.pooled.append(number)
        if self.order == "least":
            self.pooled = sorted(self.pooled)
        if self.order == "greatest":
            self.pooled = sorted(self.pooled, reverse=True)

    def first_undealt(self):
        """Return the frontier."""
        return self.many_dealt

    def kept_parts(self):
        """Return a list with the number of the open deed of each house, as a stretch, or None."""
        return [None if number is None else (number, number) for number in self.in_hand]

    def amount_ahead(self, house):
        """Return how many deeds are open if a house without one would be dealt the frontier now, None if not."""
        if self.pooled:
            return None
        return len([number for number in self.in_hand if number is not None])


def new_dealing(scheme, houses):
    """Return the dealing of these houses before all events."""
    kind = scheme[0]
    if kind == "late":
        return LateDealing(houses)
    if kind == "pool":
        return PoolDealing(houses, scheme[1])
    return LotDealing(houses, scheme[1], kind == "again")


def dealing_behind(scheme, houses, weaving):
    """Return the dealing of these houses behind all events of a weaving."""
    dealing = new_dealing(scheme, houses)
    for event in weaving:
        happen(dealing, event)
    return dealing


def happen(dealing, event):
    """Let an event happen that can follow, and return the number that it deals, settles or leaves, or None."""
    word, house = event
    if word == "take":
        return dealing.take(house)
    if word == "end":
        return dealing.end(house)
    if word == "fail":
        return dealing.fail(house)
    return dealing.fall(house)


def pending_parts(dealing):
    """Return parts (first, last) of the pending numbers; of each only the first number can be settled next."""
    kept = [part for part in dealing.kept_parts() if part is not None]
    return kept + [(number, number) for number in dealing.pooled]


def mark_of(dealing):
    """Return the least pending number, or the frontier if none is pending."""
    return min([first for first, _ in pending_parts(dealing)], default=dealing.first_undealt())
