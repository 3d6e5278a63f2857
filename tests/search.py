"""A slow search over all weavings, by the model, to hold small cases against.

The houses are alike, so of the states that differ only in which house is which one is enough.
"""

import heapq
import itertools

from tests.model import Model


def copied(model):
    twin = Model(model.scheme, model.houses)
    twin.open = dict(model.open)
    twin.deeds = set(model.deeds)
    twin.book = list(model.book)
    twin.lost = set(model.lost)
    twin.lots = {house: list(lot) for house, lot in model.lots.items()}
    twin.lots_taken = model.lots_taken
    twin.pool = list(model.pool)
    twin.dealt = set(model.dealt)
    return twin


def state_of(model, sequence_counts):
    houses = sorted(
        (model.open.get(house, -1), house in model.deeds, tuple(model.lots.get(house, ())))
        for house in range(model.houses)
    )
    book = tuple(model.book) if sequence_counts else frozenset(model.book)
    return tuple(houses), book, frozenset(model.lost), model.lots_taken, tuple(model.pool), frozenset(model.dealt)


def reached(start, words, price_of, goes_on, sequence_counts=True):
    """Yield (price, model) with the least price for each state that events with these words reach.

    The price is a tuple, so that fails and falls can be counted apart; then each price counts as another state.
    """
    ticket = itertools.count()
    queue = [((0, 0), next(ticket), start)]
    seen = set()
    while queue:
        price, _, model = heapq.heappop(queue)
        state = state_of(model, sequence_counts)
        if (state, price_of.get("both", False) and price) in seen:
            continue
        seen.add((state, price_of.get("both", False) and price))
        yield price, model
        for event in model.followers():
            if event[0] in words:
                later = copied(model)
                later.happen(event)
                paid = price_of.get(event[0], (0, 0))
                total = (price[0] + paid[0], price[1] + paid[1])
                if goes_on(later, total):
                    heapq.heappush(queue, (total, next(ticket), later))


def cheapest_books(scheme, houses, bound, length, words=("take", "end", "fail"), paid=None):
    """Return the books of at most this length, with numbers below the bound, and how often the paid word is needed."""
    def goes_on(model, _):
        return model.frontier() <= bound and len(model.book) <= length

    price_of = {paid: (1, 0)} if paid else {}
    found = {}
    for price, model in reached(Model(scheme, houses), words, price_of, goes_on):
        found.setdefault(tuple(model.book), price[0])
    return found


def fewest_paid(scheme, houses, numbers, words, paid):
    """Return how often the paid word is needed for just this book, None if no weaving has it."""
    frontier = (max(numbers, default=-1) // scheme[1] + 1) * scheme[1]

    def goes_on(model, _):
        return model.frontier() <= frontier and model.book == numbers[:len(model.book)]

    for price, model in reached(Model(scheme, houses), words, {paid: (1, 0)}, goes_on):
        if model.book == numbers:
            return price[0]
    return None


def greatest_holes(scheme, houses, fails, falls, bound):
    """Return the greatest number of holes of the weavings with so many fails and falls, up to a frontier."""
    def goes_on(model, price):
        return model.frontier() <= bound and price[0] <= fails and price[1] <= falls

    price_of = {"fail": (1, 0), "fall": (0, 1), "both": True}
    words = ["take", "end"] + ["fail"] * (fails > 0) + ["fall"] * (falls > 0)
    states = reached(Model(scheme, houses), words, price_of, goes_on, sequence_counts=False)
    return max(len(model.holes()) for _, model in states)


def greatest_risk(scheme, houses, weaving):
    """Return the greatest number of holes that can follow while the frontier stays."""
    model = Model(scheme, houses)
    for event in weaving:
        model.happen(event)
    frontier = model.frontier()
    words = ("take", "end", "fail", "fall")
    states = reached(model, words, {}, lambda later, _: later.frontier() == frontier, sequence_counts=False)
    return max(len(later.holes()) for _, later in states)


def house_at(model, house):
    return model.open.get(house, -1), house in model.deeds, tuple(model.lots.get(house, ()))


def seen_lists(scheme, houses, bound, length):
    """Return what house 0 can settle without falls: at most so many numbers, with a frontier up to a bound."""
    start = Model(scheme, houses)
    done = set()
    found = set()
    left = [(start, ())]
    while left:
        model, seen = left.pop()
        others = sorted(house_at(model, house) for house in range(1, houses))
        state = (house_at(model, 0), tuple(others), seen, model.frontier(), tuple(model.pool))
        if state in done:
            continue
        done.add(state)
        found.add(seen)
        for event in model.followers():
            if event[0] != "fall":
                later = copied(model)
                number = later.happen(event)
                longer = (*seen, number) if event == ("end", 0) else seen
                if later.frontier() <= bound and len(longer) <= length:
                    left.append((later, longer))
    return found


def fewest_events_till_late(scheme, houses, distance, limit):
    """Return how many events, up to a limit, it takes to settle a number so much less than one before, or None."""
    layer = [Model(scheme, houses)]
    done = set()
    for many in range(1, limit + 1):
        longer = []
        for model in layer:
            for event in model.followers():
                later = copied(model)
                number = later.happen(event)
                if event[0] == "end" and max(later.book) - number >= distance:
                    return many
                state = state_of(later, False)
                if event[0] != "fall" and state not in done:
                    done.add(state)
                    longer.append(later)
        layer = longer
    return None


def is_refused(model, budget, event):
    """Tell whether an event is a take that the budget refuses, by the words of point 11."""
    word, house = event
    if word != "take" or budget is None:
        return False
    if model.kind == "pool":
        return not model.pool and len(model.deeds) > budget
    return house not in model.lots and len(model.pending()) + len(model.lost) > budget


def breaks(model, wish, event, number):
    """Tell whether a wish is broken by an event that has just happened."""
    if wish == "early":
        return event[0] == "take" and number is None
    if wish == "full":
        return len(model.holes()) > 0
    if wish == "rest":
        return len(model.holes()) > 0 and not model.deeds
    if wish == "ascending":
        return model.book != sorted(model.book)
    return wish == "kept" and len(model.lost) > 0


def fewest_events_to_break(rule, houses, falls, wish, limit):
    """Return how many events, up to a limit, it takes to break a wish, or None."""
    scheme, budget = rule
    layer = [Model(scheme, houses)]
    done = set()
    for many in range(1, limit + 1):
        longer = []
        for model in layer:
            for event in model.followers():
                if event[0] == "fall" and not falls:
                    continue
                if is_refused(model, budget, event):
                    if wish == "free":
                        return many
                    continue
                later = copied(model)
                number = later.happen(event)
                if breaks(later, wish, event, number):
                    return many
                state = state_of(later, False)
                if state not in done:
                    done.add(state)
                    longer.append(later)
        layer = longer
    return None
