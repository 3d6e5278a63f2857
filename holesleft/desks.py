"""Live desks: houses deal numbers call by call, and the calls can be taken back."""

from holesleft.checks import check_houses, is_event, is_natural, is_within
from holesleft.dealing import dealing_behind, happen, mark_of, new_dealing, pending_parts
from holesleft.errors import InvalidBudget, InvalidEvent, InvalidHouse, InvalidScheme
from holesleft.errors import NoDeed, NothingToUndo, OpenDeed, Refused
from holesleft.rules import KINDS_WITH_BUDGET, is_refused
from holesleft.schemes import check_scheme
from holesleft.stretches import gaps, joined


class Desk:
    """A live desk."""

    def __init__(self, scheme, houses):
        check_scheme(scheme)
        check_houses(houses)
        self._scheme = scheme
        self._houses = houses
        self._events = []
        self._dealing = new_dealing(scheme, houses)

    @property
    def scheme(self):
        """The scheme."""
        return self._scheme

    @property
    def houses(self):
        """The number of houses."""
        return self._houses

    @property
    def weaving(self):
        """The events so far, without those that were taken back."""
        return list(self._events)

    @property
    def book(self):
        """The settled numbers, in the sequence of the ends."""
        return list(self._dealing.settled)

    @property
    def open_numbers(self):
        """A list with the number of the open deed of each house, or None."""
        return list(self._dealing.in_hand)

    @property
    def holes(self):
        """The stretches of the holes."""
        return gaps(self._dealing.settled)

    @property
    def lost(self):
        """The stretches of the lost numbers."""
        return joined(self._dealing.lost_parts)

    @property
    def mark(self):
        """The least pending number, or the frontier if none is pending."""
        return mark_of(self._dealing)

    def __len__(self):
        return len(self._events)

    def __eq__(self, other):
        return type(self) is type(other) and self._compared() == other._compared()

    def _compared(self):
        """Return a list of all that `==` compares in desks of one class."""
        deeds = [self._has_deed(house) for house in range(self._houses)]
        pending = joined(pending_parts(self._dealing))
        return [self._scheme, self._houses, self.book, self.open_numbers, deeds, pending, self.lost]

    def _has_deed(self, house):
        # With late an open deed has no number, so the events must tell.
        words = [word for word, other in self._events if other == house]
        return words[-1:] == ["take"]

    def take(self, house):
        """Begin a deed and return its number, None with late."""
        self._check_take(house)
        return self._let_happen("take", house)

    def end(self, house):
        """End a deed well and return its number."""
        self._check_deed(house)
        return self._let_happen("end", house)

    def fail(self, house):
        """End a deed badly."""
        self._check_deed(house)
        self._let_happen("fail", house)

    def fall(self, house):
        """Let a house fall."""
        self._check_house(house)
        self._let_happen("fall", house)

    def undo(self):
        """Take back the last call that is not taken back."""
        if len(self._events) == 0:
            raise NothingToUndo("no call is left that can be taken back")
        self._resume(self._events[:-1])

    def _check_house(self, house):
        if not is_within(house, 0, self._houses - 1):
            raise InvalidHouse("house: an integer from 0 to the number of houses less 1 is needed")

    def _check_take(self, house):
        self._check_house(house)
        if self._has_deed(house):
            raise OpenDeed("the house has an open deed")

    def _check_deed(self, house):
        self._check_house(house)
        if not self._has_deed(house):
            raise NoDeed("the house has no open deed")

    def _let_happen(self, word, house):
        event = (word, house)
        self._events.append(event)
        return happen(self._dealing, event)

    def _resume(self, events):
        """Go on behind these events."""
        self._events = list(events)
        self._dealing = dealing_behind(self._scheme, self._houses, self._events)

    def twin(self):
        """Return a desk of the same class in the same state."""
        desk = Desk(self._scheme, self._houses)
        desk._resume(self._events)
        return desk

    def try_events(self, *events):
        """Return the list of the results that the calls of these events would return; change nothing."""
        for event in events:
            if not is_event(self._houses, event):
                raise InvalidEvent("an event of the houses is needed")
        desk = self.twin()
        results = []
        for word, house in events:
            results.append(desk._called(word, house))
        return results

    def _called(self, word, house):
        """Call what an event stands for."""
        if word == "take":
            return self.take(house)
        if word == "end":
            return self.end(house)
        if word == "fail":
            return self.fail(house)
        return self.fall(house)

    def described(self):
        """Return how many numbers are settled, and how many holes there are."""
        return [f"settled {len(self._dealing.settled)}", f"holes {self._dealing.many_holes()}"]


class BudgetDesk(Desk):
    """A desk that refuses takes that could lead to more holes than its budget."""

    def __init__(self, scheme, houses, budget):
        check_scheme(scheme)
        if scheme[0] not in KINDS_WITH_BUDGET:
            raise InvalidScheme("scheme: again or pool is needed")
        check_houses(houses)
        if not is_natural(budget):
            raise InvalidBudget("budget: an integer from 0 on is needed")
        Desk.__init__(self, scheme, houses)
        self._budget = budget

    @property
    def budget(self):
        """The greatest number of holes that can come."""
        return self._budget

    def _check_take(self, house):
        super()._check_take(house)
        if is_refused(self._dealing, self._budget, house):
            raise Refused(self._dealing.amount_ahead(house))

    def _compared(self):
        return super()._compared() + [self._budget]

    def twin(self):
        """Return a desk of the same class in the same state."""
        desk = BudgetDesk(self._scheme, self._houses, self._budget)
        desk._resume(self._events)
        return desk

    def described(self):
        """Return what a desk tells, and the budget."""
        return super().described() + [f"budget {self._budget}"]


class ReadingDesk(Desk):
    """A desk with a reader, who looks at the settled numbers."""

    def __init__(self, scheme, houses):
        Desk.__init__(self, scheme, houses)
        self._looks = []

    @property
    def missed(self):
        """The settled numbers that are less than the greatest number returned by a look, and were returned by none."""
        seen = self._seen()
        greatest = max(seen, default=-1)
        return sorted([number for number in self._dealing.settled if number < greatest and number not in seen])

    def _seen(self):
        """Return the numbers that were returned by all looks together, ascending."""
        return [number for _, numbers in self._looks for number in numbers]

    def look(self):
        """Return the settled numbers that are greater than the greatest number returned by a look so far."""
        greatest = max(self._seen(), default=-1)
        numbers = sorted([number for number in self._dealing.settled if number > greatest])
        # With the number of events it can be told later which call was the last one.
        self._looks.append((len(self._events), numbers))
        return list(numbers)

    def undo(self):
        """Take back the last call, or look, that is not taken back."""
        if self._looks and self._looks[-1][0] == len(self._events):
            self._looks.pop()
        else:
            super().undo()

    def _look_as(self, looks):
        """Take over looks, so that they can be taken back here."""
        self._looks = list(looks)

    def _compared(self):
        return super()._compared() + [self._seen()]

    def twin(self):
        """Return a desk of the same class in the same state."""
        desk = ReadingDesk(self._scheme, self._houses)
        desk._resume(self._events)
        desk._look_as(self._looks)
        return desk

    def described(self):
        """Return what a desk tells, and how many numbers the reader missed."""
        return super().described() + [f"missed {len(self.missed)}"]


class ReadingBudgetDesk(ReadingDesk, BudgetDesk):
    """A desk with a reader and a budget."""

    def __init__(self, scheme, houses, budget):
        BudgetDesk.__init__(self, scheme, houses, budget)
        self._looks = []

    def twin(self):
        """Return a desk of the same class in the same state."""
        desk = ReadingBudgetDesk(self._scheme, self._houses, self._budget)
        desk._resume(self._events)
        desk._look_as(self._looks)
        return desk
