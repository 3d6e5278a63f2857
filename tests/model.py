"""A slow model of DOC.md [6] to [8], written number by number, to compare the program with.

It keeps every number by itself and reads frontier, pending numbers and holes off their definitions.
"""

import random

SMALL_SCHEMES = [
    ("late",),
    ("lost", 1), ("lost", 2), ("lost", 3),
    ("again", 1), ("again", 2), ("again", 3),
    ("pool", "least"), ("pool", "greatest"), ("pool", "oldest"), ("pool", "newest"),
]
HUGE = 10 ** 30 - 1
HUGE_SCHEMES = [("lost", HUGE), ("again", HUGE)]
SCHEMES = SMALL_SCHEMES + HUGE_SCHEMES


class Model:
    def __init__(self, scheme, houses):
        self.scheme = scheme
        self.kind = scheme[0]
        self.houses = houses
        self.open = {}
        self.deeds = set()
        self.book = []
        self.lost = set()
        self.lots = {}
        self.lots_taken = 0
        self.pool = []
        self.dealt = set()

    def frontier(self):
        used = self.dealt | self.lost | set(self.book)
        for lot in self.lots.values():
            used |= set(lot)
        number = 0
        while number in used:
            number += 1
        return number

    def pool_in_sequence(self):
        if self.kind != "pool":
            return []
        order = self.scheme[1]
        if order == "least":
            return sorted(self.pool)
        if order == "greatest":
            return sorted(self.pool)[::-1]
        if order == "oldest":
            return list(self.pool)
        return self.pool[::-1]

    def pending(self):
        held = set(self.open.values()) | set(self.pool)
        for lot in self.lots.values():
            held |= set(lot)
        return held - self.lost - set(self.book)

    def holes(self):
        if not self.book:
            return set()
        return set(range(max(self.book))) - set(self.book)

    def happen(self, event):
        word, house = event
        return getattr(self, word)(house)

    def take(self, house):
        self.deeds.add(house)
        if self.kind == "late":
            return None
        if self.kind == "pool":
            number = (self.pool_in_sequence() + [self.frontier()])[0]
            if number in self.pool:
                self.pool.remove(number)
        else:
            if house not in self.lots:
                size = self.scheme[1]
                self.lots[house] = [self.lots_taken * size + k for k in range(size)]
                self.lots_taken += 1
            number = min(self.lots[house])
        self.open[house] = number
        self.dealt.add(number)
        return number

    def end(self, house):
        self.deeds.remove(house)
        if self.kind == "late":
            number = self.frontier()
        else:
            number = self.open.pop(house)
            self.use_up(house, number)
        self.book.append(number)
        return number

    def fail(self, house):
        self.deeds.remove(house)
        number = self.open.pop(house, None)
        if self.kind == "lost":
            self.lost.add(number)
            self.use_up(house, number)
        if self.kind == "pool":
            self.pool.append(number)
        return number

    def fall(self, house):
        self.deeds.discard(house)
        number = self.open.pop(house, None)
        if self.kind == "pool" and number is not None:
            self.pool.append(number)
        self.lost |= set(self.lots.pop(house, []))
        return number

    def use_up(self, house, number):
        if house in self.lots:
            self.lots[house].remove(number)
            if not self.lots[house]:
                del self.lots[house]

    def rests(self):
        rows = []
        for house in range(self.houses):
            if house in self.lots:
                rows.append((min(self.lots[house]), max(self.lots[house])))
            elif self.kind == "pool" and house in self.open:
                rows.append((self.open[house], self.open[house]))
            else:
                rows.append(None)
        return rows

    def followers(self):
        rows = []
        for house in range(self.houses):
            words = ["end", "fail"] if house in self.deeds else ["take"]
            rows.extend((word, house) for word in words + ["fall"])
        return rows


def stretches(numbers):
    rows = []
    for number in sorted(numbers):
        if rows and rows[-1][1] + 1 == number:
            rows[-1] = (rows[-1][0], number)
        else:
            rows.append((number, number))
    return rows


def expected(scheme, houses, weaving):
    """Return the answers of all functions of holesleft.runs, by their names."""
    model = Model(scheme, houses)
    numbers = []
    holes = []
    for event in weaving:
        numbers.append(model.happen(event))
        holes.append(len(model.holes()))
    return {
        "numbers_along": numbers,
        "book_of": model.book,
        "open_numbers_of": [model.open.get(house) for house in range(houses)],
        "rests_of": model.rests(),
        "pool_of": model.pool_in_sequence(),
        "frontier_of": model.frontier(),
        "lost_of": stretches(model.lost),
        "pending_of": stretches(model.pending()),
        "holes_of": stretches(model.holes()),
        "count_holes": len(model.holes()),
        "holes_along": holes,
    }


def all_weavings(houses, length):
    """Return all weavings of at most so many events."""
    found = [[]]
    longest = [[]]
    for _ in range(length):
        longest = [weaving + [event] for weaving in longest for event in followers(houses, weaving)]
        found.extend(longest)
    return found


def followers(houses, weaving):
    model = Model(("late",), houses)
    for event in weaving:
        model.happen(event)
    return model.followers()


def mixed_weaving(houses, length, seed, words=("take", "end", "fail", "fall")):
    """Return a weaving with events of these words only, always the same one for the same arguments."""
    source = random.Random(seed)
    model = Model(("late",), houses)
    weaving = []
    for _ in range(length):
        event = source.choice([event for event in model.followers() if event[0] in words])
        model.happen(event)
        weaving.append(event)
    return weaving
