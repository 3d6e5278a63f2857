"""A slow desk that keeps only its calls and reads all else off holesleft.runs and holesleft.readers."""

import random

from holesleft.readers import marks_along, missed_by
from holesleft.risks import first_refused
from holesleft.runs import book_of, count_holes, frontier_of, holes_of, lost_of, numbers_along, open_numbers_of
from holesleft.runs import pending_of
from holesleft.schemes import can_follow


class ToldDesk:
    def __init__(self, scheme, houses, budget=None, reads=False):
        self.scheme = scheme
        self.houses = houses
        self.budget = budget
        self.reads = reads
        self.calls = []

    def weaving(self, behind=None):
        return [call for call in self.calls[:behind] if call != "look"]

    def looks(self):
        return [len(self.weaving(index)) for index, call in enumerate(self.calls) if call == "look"]

    def busy_houses(self):
        return [house for house in range(self.houses) if ("end", house) in can_follow(self.houses, self.weaving())]

    def expected_error(self, event):
        """Return the name of the error of a call and its field, None if it can happen."""
        word, house = event
        busy = self.busy_houses()
        if word == "take" and house in busy:
            return ("OpenDeed", None)
        if word in ("end", "fail") and house not in busy:
            return ("NoDeed", None)
        longer = self.weaving() + [event]
        if self.budget is not None and first_refused((self.scheme, self.budget), self.houses, longer) is not None:
            if self.scheme[0] == "pool":
                return ("Refused", len(busy))
            # All numbers below the frontier that are not settled are pending or lost.
            settled = book_of(self.scheme, self.houses, self.weaving())
            return ("Refused", frontier_of(self.scheme, self.houses, self.weaving()) - len(settled))
        return None

    def result(self, event):
        """Return what the call of an event that can happen returns."""
        number = numbers_along(self.scheme, self.houses, self.weaving() + [event])[-1]
        return number if event[0] in ("take", "end") else None

    def seen(self):
        """Return the lists that the looks have returned."""
        rows = []
        greatest = -1
        for look in self.looks():
            book = book_of(self.scheme, self.houses, self.weaving()[:look])
            rows.append(sorted(number for number in book if number > greatest))
            greatest = max(rows[-1], default=greatest)
        return rows

    def properties(self):
        run = (self.scheme, self.houses, self.weaving())
        told = {
            "scheme": self.scheme, "houses": self.houses, "weaving": self.weaving(), "book": book_of(*run),
            "open_numbers": open_numbers_of(*run), "holes": holes_of(*run), "lost": lost_of(*run),
            "mark": marks_along(*run)[-1],
        }
        if self.budget is not None:
            told["budget"] = self.budget
        if self.reads:
            told["missed"] = missed_by(*run, self.looks())
        return told

    def described(self):
        run = (self.scheme, self.houses, self.weaving())
        rows = [f"settled {len(book_of(*run))}", f"holes {count_holes(*run)}"]
        if self.budget is not None:
            rows.append(f"budget {self.budget}")
        if self.reads:
            rows.append(f"missed {len(missed_by(*run, self.looks()))}")
        return rows

    def compared(self):
        """Return all that is compared by == in desks."""
        run = (self.scheme, self.houses, self.weaving())
        seen = {number for row in self.seen() for number in row}
        return (self.budget is None, self.reads, self.scheme, self.houses, book_of(*run), open_numbers_of(*run),
                self.busy_houses(), pending_of(*run), lost_of(*run), self.budget, seen)


def some_calls(houses, many, seed, reads=True):
    """Return calls, as events of any kind, "undo" and "look"; some of them cannot happen."""
    source = random.Random(seed)
    words = ["take"] * 7 + ["end"] * 5 + ["fail"] * 2 + ["fall", "undo", "undo"] + ["look"] * 2 * reads
    calls = []
    for _ in range(many):
        word = source.choice(words)
        calls.append(word if word in ("undo", "look") else (word, source.randrange(houses)))
    return calls
