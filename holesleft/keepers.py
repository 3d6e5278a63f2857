"""How houses with a pool keep numbers open, so that house 0 can settle them later."""

from holesleft.dealing import PoolDealing
from holesleft.weavers import Weaver


class PoolKeepers(Weaver):
    """Writes a weaving of houses with a pool; between two steps the pool is empty, so its order does not matter."""

    def __init__(self, houses, order):
        super().__init__(PoolDealing(houses, order))

    def hand_over(self, giver, taker):
        """Let a house take the number that another one keeps."""
        self.write("fail", giver)
        self.write("take", taker)

    def free_house_but_first(self):
        """Return a house other than house 0 that keeps no number; if there is none, house 0 takes one over."""
        others = self.dealing.in_hand[1:]
        if None in others:
            return others.index(None) + 1
        self.hand_over(1, 0)
        return 1

    def keep_next(self):
        """Let any house keep the frontier."""
        self.write("take", self.dealing.in_hand.index(None))

    def settle_next(self):
        """Let a house other than house 0 settle the frontier."""
        house = self.free_house_but_first()
        self.write("take", house)
        self.write("end", house)

    def settle_by_first(self, number):
        """Let house 0 settle a number that is kept, or the frontier."""
        in_hand = self.dealing.in_hand
        if in_hand[0] is not None and in_hand[0] != number:
            self.hand_over(0, self.free_house_but_first())
        if number not in in_hand:
            self.write("take", 0)
        elif in_hand[0] != number:
            self.hand_over(in_hand.index(number), 0)
        self.write("end", 0)


def weaving_by_keepers(houses, order, numbers):
    """Return a weaving of a pool in which house 0 settles just these numbers, which are a list that it can see."""
    keepers = PoolKeepers(houses, order)
    for number in numbers:
        while keepers.dealing.first_undealt() < number:
            # Numbers of the list are kept until their turn comes; there are enough houses for those.
            if keepers.dealing.first_undealt() in numbers:
                keepers.keep_next()
            else:
                keepers.settle_next()
        keepers.settle_by_first(number)
    return keepers.written
