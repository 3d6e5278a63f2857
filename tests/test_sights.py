"""DOC.md [2], [3] and [25]: holesleft.sights."""

import itertools
import random
import unittest

from holesleft import sights
from holesleft.errors import InvalidHouses, InvalidNumbers, InvalidScheme, TooLong, Unseen
from holesleft.runs import numbers_along
from holesleft.schemes import is_weaving
from holesleft.sights import can_see, see_weaving, sight_fault
from tests.calls import check_error, check_first_wrong, check_integer, check_new_list, check_parameters, count_words
from tests.lists import all_lists
from tests.model import HUGE, SCHEMES, SMALL_SCHEMES
from tests.search import seen_lists
from tests.wrong import NO_NUMBERS, NO_NUMBER_LISTS, Odd, WRONG_HOUSES, WRONG_SCHEMES

POOLS = [("pool", order) for order in ["least", "greatest", "oldest", "newest"]]
LIMITED = [("late",), ("lost", 1), ("lost", 7), ("lost", HUGE), ("again", 1), ("again", 2), ("again", HUGE)]
NAMES = {
    can_see: ["scheme", "houses", "value"],
    sight_fault: ["scheme", "houses", "numbers"],
    see_weaving: ["scheme", "houses", "numbers"],
}


def ascends(numbers):
    return all(first < second for first, second in zip(numbers, numbers[1:]))


def told_sight(scheme, houses, numbers):
    """Tell whether house 0 can settle these numbers, by the words of point 25."""
    kind = scheme[0]
    if kind != "lost" and houses == 1:
        return numbers == list(range(len(numbers)))
    if kind in ("lost", "late"):
        return ascends(numbers)
    if kind == "again":
        size = scheme[1]
        parts = [list(group) for _, group in itertools.groupby(numbers, lambda number: number // size)]
        lots = [part[0] // size for part in parts]
        full = all(part == list(range(lot * size, lot * size + size)) for lot, part in zip(lots[:-1], parts[:-1]))
        begun = not parts or parts[-1] == list(range(lots[-1] * size, lots[-1] * size + len(parts[-1])))
        return ascends(lots) and full and begun
    behind = [[other for other in numbers[place + 1:] if other < number] for place, number in enumerate(numbers)]
    return len(set(numbers)) == len(numbers) and all(len(row) < houses for row in behind)


def told_fault(scheme, houses, numbers):
    for place in range(len(numbers)):
        if not told_sight(scheme, houses, numbers[:place + 1]):
            return place
    return None


def some_list(scheme, houses, length, behind, seed):
    """Return a list that house 0 can settle, of at most so many numbers below a bound."""
    source = random.Random(seed)
    if houses == 1 and scheme[0] != "lost":
        return list(range(min(length, behind)))
    if scheme[0] == "pool":
        numbers = sorted(source.sample(range(behind), min(length, behind)))
        found = []
        while numbers:
            # One of the least numbers that are left: it has fewer than `houses` smaller ones behind it.
            found.append(numbers.pop(source.randrange(min(houses, len(numbers)))))
        return found
    if scheme[0] == "again":
        size = scheme[1]
        lots = [lot for lot in range(behind // size + 1) if source.random() < 0.6]
        numbers = [lot * size + place for lot in lots for place in range(min(size, behind))]
        return [number for number in numbers if number < behind][:length]
    return sorted(source.sample(range(behind), min(length, behind)))


class InterfaceTest(unittest.TestCase):
    def test_parameters(self):
        for call, names in NAMES.items():
            check_parameters(self, call, names)
            self.assertIs(getattr(sights, call.__name__), call)
            self.assertEqual(call.__module__, "holesleft.sights")

    def test_arguments_stay_and_lists_are_new(self):
        for scheme in SCHEMES:
            for numbers in [[], [0], [0, 1]]:
                by_name = {"scheme": scheme, "houses": 2, "numbers": list(numbers)}
                check_new_list(self, see_weaving, (scheme, 2, list(numbers)), by_name)

    def test_values_by_position_and_by_name(self):
        for scheme in SCHEMES:
            by_name = {"scheme": scheme, "houses": 2}
            check_integer(self, can_see, {**by_name, "value": [0, 1]}, True)
            check_integer(self, can_see, {**by_name, "value": [1, 1]}, False)
            check_integer(self, sight_fault, {**by_name, "numbers": [0, 1]}, None)
            check_integer(self, sight_fault, {**by_name, "numbers": [0, 0]}, 1)


class SightTest(unittest.TestCase):
    def check(self, scheme, houses, numbers):
        fault = told_fault(scheme, houses, numbers)
        self.assertEqual(sight_fault(scheme, houses, numbers), fault, (scheme, houses, numbers))
        self.assertIs(can_see(scheme, houses, numbers), fault is None, (scheme, houses, numbers))

    def test_all_weavings(self):
        for scheme in SMALL_SCHEMES:
            for houses, bound, length in [(1, 6, 4), (2, 6, 3), (3, 6, 3)]:
                found = seen_lists(scheme, houses, bound, length)
                told = {tuple(row) for row in all_lists(bound, length) if can_see(scheme, houses, row)}
                self.assertEqual(found, told, (scheme, houses))

    def test_all_short_lists(self):
        for scheme in SMALL_SCHEMES:
            for houses in (1, 2, 3, 4):
                for numbers in all_lists(6, 4):
                    self.check(scheme, houses, numbers)

    def test_mixed_lists(self):
        source = random.Random(25)
        for seed in range(60):
            for scheme in SMALL_SCHEMES + [("again", 5), ("again", 40)]:
                houses = source.randint(1, 20)
                numbers = some_list(scheme, houses, source.randint(0, 60), 60, seed)
                self.assertIsNone(sight_fault(scheme, houses, numbers))
                self.check(scheme, houses, numbers)
                if numbers:
                    place = source.randrange(len(numbers))
                    for changed in (numbers[place] + 1, numbers[place - 1], source.randrange(60), 10 ** 29 + seed):
                        self.check(scheme, houses, numbers[:place] + [changed] + numbers[place + 1:])
                    self.check(scheme, houses, numbers[:place] + numbers[place + 1:])

    def test_pool_at_the_number_of_houses(self):
        for scheme in POOLS:
            for houses in range(2, 21):
                numbers = [10 ** 29, *range(houses)]
                self.assertEqual(sight_fault(scheme, houses, numbers), houses)
                self.assertTrue(can_see(scheme, houses, numbers[:-1]))
                self.assertTrue(can_see(scheme, houses, numbers[:-1] + [10 ** 29 + 1]))

    def test_huge_lots(self):
        scheme = ("again", HUGE)
        self.assertTrue(can_see(scheme, 2, [5 * HUGE, 5 * HUGE + 1]))
        self.assertEqual(sight_fault(scheme, 2, [5 * HUGE, 6 * HUGE]), 1)
        self.assertEqual(sight_fault(scheme, 2, [5 * HUGE + 1]), 0)
        self.assertEqual(sight_fault(scheme, 2, [0, 1, 2, 2]), 3)
        self.assertTrue(can_see(("lost", HUGE), 1, [5, HUGE, HUGE + 7, 9 * HUGE]))
        self.assertEqual(sight_fault(("lost", HUGE), 20, [5, HUGE, HUGE]), 2)

    def test_200_numbers_and_201(self):
        for scheme in SCHEMES:
            self.assertIs(can_see(scheme, 3, list(range(200))), True)
            self.assertIs(can_see(scheme, 3, list(range(201))), False)
            self.assertIsNone(sight_fault(scheme, 3, list(range(200))))
            self.assertEqual(sight_fault(scheme, 3, [*range(199), 0]), 199)
            check_error(self, InvalidNumbers, sight_fault, (scheme, 3, list(range(201))), index=None)

    def test_no_lists(self):
        for scheme in SCHEMES:
            for houses in (1, 2, 20):
                self.assertIs(can_see(scheme, houses, []), True)
                for value in NO_NUMBER_LISTS:
                    self.assertIs(can_see(scheme, houses, value), False)
                for value in NO_NUMBERS:
                    self.assertIs(can_see(scheme, houses, [0, value]), False)
                    self.assertIs(can_see(scheme, houses, [value]), False)
                self.assertIs(can_see(scheme, houses, [False, True]), False)


class WeavingTest(unittest.TestCase):
    def check(self, scheme, houses, numbers):
        weaving = see_weaving(scheme, houses, numbers)
        self.assertTrue(is_weaving(houses, weaving), (scheme, houses, numbers))
        self.assertEqual(count_words(weaving)["fall"], 0)
        settled = zip(weaving, numbers_along(scheme, houses, weaving))
        seen = [number for event, number in settled if event == ("end", 0)]
        self.assertEqual(seen, numbers, (scheme, houses))

    def test_all_short_lists(self):
        for scheme in SMALL_SCHEMES:
            for houses in (1, 2, 3, 4):
                for numbers in all_lists(6, 4):
                    if told_sight(scheme, houses, numbers):
                        self.check(scheme, houses, numbers)

    def test_pools(self):
        for scheme in POOLS:
            for houses in range(1, 6):
                for numbers in itertools.permutations(range(5)):
                    for bound in (4, 5):
                        row = [number for number in numbers if number < bound]
                        if told_sight(scheme, houses, row):
                            self.check(scheme, houses, row)
            for seed in range(80):
                for houses in (2, 3, 4, 8, 19, 20):
                    self.check(scheme, houses, some_list(scheme, houses, seed % 21, 20, seed))

    def test_other_schemes(self):
        for seed in range(8):
            for scheme in LIMITED + [("again", 3), ("again", 66), ("again", 199), ("again", 200), ("lost", 50)]:
                for houses in (1, 2, 3, 20):
                    self.check(scheme, houses, some_list(scheme, houses, 200, 200, seed))
                    self.check(scheme, houses, some_list(scheme, houses, 15, 200, seed))

    def test_the_empty_list(self):
        for scheme in SCHEMES:
            for houses in range(1, 21):
                self.check(scheme, houses, [])

    def test_one_house(self):
        for scheme in SCHEMES:
            self.check(scheme, 1, list(range(20)))
            if scheme[0] == "lost":
                self.check(scheme, 1, [3, 199])

    def test_limits(self):
        for scheme in POOLS:
            for houses in (2, 20):
                self.check(scheme, houses, [19])
                self.check(scheme, houses, [19, 0])
                for numbers in [[20], [0, 20], [21, 5], [HUGE]]:
                    check_error(self, TooLong, see_weaving, (scheme, houses, numbers), limit=20)
            self.check(scheme, 1, list(range(20)))
            check_error(self, TooLong, see_weaving, (scheme, 1, list(range(21))), limit=20)
            self.check(scheme, 20, list(range(19, -1, -1)))
        for scheme in LIMITED:
            self.check(scheme, 2, list(range(200)))
            if scheme not in [("again", 2), ("again", HUGE)]:
                self.check(scheme, 2, [199])
                for numbers in [[200], [3, 200], [HUGE]]:
                    check_error(self, TooLong, see_weaving, (scheme, 2, numbers), limit=200)
        self.check(("again", 2), 2, [198, 199])
        check_error(self, TooLong, see_weaving, (("again", 2), 2, [200]), limit=200)
        check_error(self, TooLong, see_weaving, (("again", HUGE), 2, [HUGE]), limit=200)

    def test_unseen(self):
        source = random.Random(5)
        for scheme in SCHEMES:
            for houses in (1, 2, 3):
                for _ in range(40):
                    numbers = [source.randrange(300) for _ in range(4)]
                    fault = told_fault(scheme, houses, numbers)
                    if fault is not None:
                        check_error(self, Unseen, see_weaving, (scheme, houses, numbers), index=fault)

    def test_unseen_at_each_place(self):
        for scheme in SMALL_SCHEMES:
            for place in range(1, 200):
                numbers = list(range(place)) + [place - 1] * (200 - place)
                check_error(self, Unseen, see_weaving, (scheme, 2, numbers), index=place)


class ErrorsTest(unittest.TestCase):
    def test_schemes_and_houses(self):
        for call in NAMES:
            for scheme in WRONG_SCHEMES:
                check_error(self, InvalidScheme, call, (scheme, 2, [0]))
            for houses in WRONG_HOUSES:
                check_error(self, InvalidHouses, call, (("late",), houses, [0]))

    def test_numbers(self):
        for call in (sight_fault, see_weaving):
            for value in NO_NUMBER_LISTS:
                check_error(self, InvalidNumbers, call, (("late",), 2, value), index=None)
            for value in NO_NUMBERS:
                # The list is wrong ahead of this item, too, but its items are checked first.
                check_error(self, InvalidNumbers, call, (("again", 2), 2, [9, 9, value, value]), index=2)
            check_error(self, InvalidNumbers, call, (("late",), 1, [Odd()]), index=0)

    def test_unseen_comes_ahead_of_too_long(self):
        check_error(self, Unseen, see_weaving, (("late",), 2, [300, 300]), index=1)
        check_error(self, Unseen, see_weaving, (("pool", "least"), 2, [300, 0, 1]), index=2)
        check_error(self, Unseen, see_weaving, (("again", 2), 2, [301]), index=0)

    def test_the_first_wrong_argument_tells(self):
        wrongs = [(["late"], InvalidScheme, {}), (0, InvalidHouses, {}), ([0, -1], InvalidNumbers, {"index": 1})]
        for call in (sight_fault, see_weaving):
            check_first_wrong(self, call, (("again", 2), 2, [0, 1]), wrongs)
        check_error(self, InvalidScheme, can_see, (None, 0, None))
        check_error(self, InvalidHouses, can_see, (("late",), 0, None))


if __name__ == "__main__":
    unittest.main()
