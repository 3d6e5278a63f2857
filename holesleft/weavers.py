"""How weavings are written that settle given numbers."""

from holesleft.dealing import LotDealing, happen
from holesleft.lots import last_places


class Weaver:
    """Writes a weaving, event by event."""

    def __init__(self, dealing):
        self.dealing = dealing
        self.written = []

    def write(self, word, house):
        """Let an event happen."""
        event = (word, house)
        self.written.append(event)
        happen(self.dealing, event)


class LotWeaver(Weaver):
    """Writes a weaving of houses with lots that settles numbers in a given sequence."""

    def __init__(self, houses, size, deals_again):
        super().__init__(LotDealing(houses, size, deals_again))

    def lots_held(self):
        """Return a list with the lot of each house, None for a house without a lot."""
        return [None if rest is None else rest[0] // self.dealing.size for rest in self.dealing.rests]

    def begin(self, house):
        """Let a house have an open deed."""
        if self.dealing.in_hand[house] is None:
            self.write("take", house)

    def give_up(self, house):
        """Let a house lose its lot: by a fall with again, by fails with lost."""
        if self.dealing.deals_again:
            self.write("fall", house)
        while self.dealing.rests[house] is not None:
            self.begin(house)
            self.write("fail", house)

    def free_house(self, still_heard):
        """Return a house without a lot; if there is none, one loses a lot that is not among those still heard."""
        held = self.lots_held()
        if None in held:
            return held.index(None)
        house = min([house for house, lot in enumerate(held) if lot not in still_heard])
        self.give_up(house)
        return house

    def settle(self, number):
        """Let a number be settled whose lot is held; with lost the numbers of the lot ahead of it fail."""
        house = self.lots_held().index(number // self.dealing.size)
        self.begin(house)
        while self.dealing.in_hand[house] != number:
            self.write("fail", house)
            self.begin(house)
        self.write("end", house)


def weaving_by_lots(houses, size, deals_again, numbers):
    """Return a weaving with this book of lots; a house gives up a lot only if no other way is left."""
    weaver = LotWeaver(houses, size, deals_again)
    last_place = last_places(size, numbers)
    for place, number in enumerate(numbers):
        still_heard = [lot for lot, last in last_place.items() if last >= place]
        while weaver.dealing.first_undealt() <= number:
            weaver.begin(weaver.free_house(still_heard))
        weaver.settle(number)
    return weaver.written
