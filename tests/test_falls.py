"""DOC.md [2] to [4], [9], [10], [18] and [19]: holesleft.falls."""

import itertools
import random
import unittest

from holesleft import falls
from holesleft.books import is_book, least_houses, weaving_for
from holesleft.errors import InvalidHouses, InvalidNumbers, InvalidSize, NotABook, TooFewHouses, TooLong
from holesleft.falls import fewest_fails, fewest_falls, heard_along, houses_and_falls, unfinished_along
from holesleft.falls import weaving_with_falls
from tests.calls import check_error, check_first_wrong, check_integer, check_new_list, check_parameters, check_settles
from tests.calls import count_words
from tests.lists import all_lists, book_by_rule, heard_at, in_lots, lot_list, lost_book, told_book, told_fault
from tests.lists import unfinished_at
from tests.model import HUGE
from tests.search import cheapest_books, fewest_paid
from tests.wrong import NO_NUMBER_LISTS, NO_NUMBERS, WRONG_HOUSES, WRONG_SIZES

NAMES = {
    unfinished_along: ["size", "numbers"],
    heard_along: ["size", "numbers"],
    houses_and_falls: ["size", "numbers"],
    fewest_falls: ["size", "houses", "numbers"],
    weaving_with_falls: ["size", "houses", "numbers"],
    fewest_fails: ["size", "houses", "numbers"],
}
WITHOUT_HOUSES = [unfinished_along, heard_along, houses_and_falls]
WITH_HOUSES = [fewest_falls, weaving_with_falls]


def greatest_values(size, numbers):
    """Return U and V of point 10."""
    places = range(len(numbers))
    return (max([unfinished_at(size, numbers, place) for place in places], default=1),
            max([heard_at(size, numbers, place) for place in places], default=1))


def fails_by_subsets(size, houses, numbers):
    """Return the fewest fails, by trying all choices of lots that are kept to the end."""
    last = {number // size: place for place, number in enumerate(numbers)}
    greatest = max(numbers, default=-1) // size
    behind = {lot: max([n % size + 1 for n in numbers if n // size == lot], default=0) for lot in range(greatest + 1)}
    found = []
    for chosen in itertools.product([False, True], repeat=greatest + 1):
        held = []
        given_up = 0
        possible = True
        taken = 0
        for place, number in enumerate(numbers):
            while taken <= number // size:
                for lot in list(held):
                    if not chosen[lot] and last.get(lot, -1) < place:
                        held.remove(lot)
                        given_up += size - behind[lot]
                held.append(taken)
                taken += 1
                possible = possible and len(held) <= houses
        if possible:
            found.append(given_up + sum(behind.values()) - len(numbers))
    return min(found)


class InterfaceTest(unittest.TestCase):
    def test_parameters(self):
        for call, names in NAMES.items():
            check_parameters(self, call, names)
            self.assertIs(getattr(falls, call.__name__), call)
            self.assertEqual(call.__module__, "holesleft.falls")

    def test_arguments_stay_and_lists_are_new(self):
        for numbers in [[], [0], [4, 0], [4, 0, 5, 1]]:
            for call in WITHOUT_HOUSES:
                check_new_list(self, call, (2, list(numbers)), {"size": 2, "numbers": list(numbers)})
            by_name = {"size": 2, "houses": 2, "numbers": list(numbers)}
            check_new_list(self, weaving_with_falls, (2, 2, list(numbers)), by_name)

    def test_integers_by_position_and_by_name(self):
        for houses, fewest in [(1, None), (2, 1), (3, 0), (20, 0)]:
            check_integer(self, fewest_falls, {"size": 2, "houses": houses, "numbers": [4, 0]}, fewest)
        for houses, fewest in [(1, 4), (2, 2), (3, 2)]:
            check_integer(self, fewest_fails, {"size": 2, "houses": houses, "numbers": [1, 5]}, fewest)


class AlongTest(unittest.TestCase):
    def check(self, size, numbers):
        places = range(len(numbers))
        self.assertEqual(unfinished_along(size, numbers), [unfinished_at(size, numbers, place) for place in places])
        self.assertEqual(heard_along(size, numbers), [heard_at(size, numbers, place) for place in places])
        enough, least = greatest_values(size, numbers)
        expected = [(houses, enough - houses) for houses in range(least, enough + 1)]
        self.assertEqual(houses_and_falls(size, numbers), expected[:200])
        for houses in range(1, 21):
            fewest = None if houses < least else max(0, enough - houses)
            self.assertEqual(fewest_falls(size, houses, numbers), fewest)

    def test_all_short_lists(self):
        for size in (1, 2, 3):
            for numbers in all_lists(6, 4):
                if in_lots(size, numbers):
                    self.check(size, numbers)

    def test_long_lists(self):
        for seed in range(24):
            size = seed % 4 + 1
            self.check(size, lot_list(size, 10 + 2 * seed, 60, seed))
            self.check(size, book_by_rule(size, seed % 20 + 1, 60, seed))

    def test_the_empty_list(self):
        for size in (1, 3, HUGE):
            self.assertEqual(unfinished_along(size, []), [])
            self.assertEqual(heard_along(size, []), [])
            self.assertEqual(houses_and_falls(size, []), [(1, 0)])
            for houses in (1, 2, 20):
                self.assertEqual(fewest_falls(size, houses, []), 0)
                self.assertEqual(weaving_with_falls(size, houses, []), [])
                self.assertEqual(fewest_fails(size, houses, []), 0)

    def test_199_200_and_201_numbers(self):
        for length in (199, 200):
            numbers = list(range(length))
            self.assertEqual(unfinished_along(1, numbers), [1] * length)
            self.assertEqual(heard_along(1, numbers), [1] * length)
            self.assertEqual(houses_and_falls(1, numbers), [(1, 0)])
            numbers = numbers[::-1]
            self.assertEqual(unfinished_along(1, numbers), list(range(length, 0, -1)))
            self.assertEqual(heard_along(1, numbers), list(range(length, 0, -1)))
            self.assertEqual(houses_and_falls(1, numbers), [(length, 0)])
            self.assertEqual(fewest_falls(1, 20, numbers), None)
        for call in WITHOUT_HOUSES:
            check_error(self, InvalidNumbers, call, (1, list(range(201))), index=None)
        for call in WITH_HOUSES + [fewest_fails]:
            check_error(self, InvalidNumbers, call, (1, 1, list(range(201))), index=None)

    def test_huge_lots(self):
        numbers = [5 * HUGE, 0, 5 * HUGE + 1, 2 * HUGE]
        self.assertEqual(unfinished_along(HUGE, numbers), [6] * 4)
        self.assertEqual(heard_along(HUGE, numbers), [3, 3, 2, 1])
        self.assertEqual(houses_and_falls(HUGE, numbers), [(3, 3), (4, 2), (5, 1), (6, 0)])
        self.assertEqual([fewest_falls(HUGE, houses, numbers) for houses in (2, 3, 6, 20)], [None, 3, 0, 0])

    def test_great_numbers(self):
        great = 10 ** 30 - 1
        self.assertEqual(unfinished_along(1, [great, 0]), [great + 1, great])
        self.assertEqual(heard_along(1, [great, 0]), [2, 1])
        self.assertEqual(fewest_falls(1, 2, [great, 0]), great - 1)
        self.assertIsNone(fewest_falls(1, 1, [great, 0]))
        self.assertEqual(fewest_falls(3, 20, [great]), great // 3 + 1 - 20)


class PairsTest(unittest.TestCase):
    def test_more_than_200_tuples(self):
        for least, numbers in [(1, [198]), (1, [199]), (1, [200]), (1, [500]), (1, [10 ** 29]), (2, [200, 0]),
                               (2, [201, 5]), (2, [202, 5]), (3, [9999, 77, 5])]:
            enough = numbers[0] + 1
            found = houses_and_falls(1, numbers)
            self.assertEqual(len(found), min(200, enough - least + 1))
            self.assertEqual(found, [(houses, enough - houses) for houses in range(least, least + len(found))])
        self.assertEqual(houses_and_falls(1, [199])[-1], (200, 0))
        self.assertEqual(houses_and_falls(1, [200])[-1], (200, 1))

    def test_each_further_house_saves_one_fall(self):
        for seed in range(12):
            numbers = lot_list(3, 40, 30, seed)
            found = houses_and_falls(3, numbers)
            for (one, falls_of_one), (other, falls_of_other) in zip(found, found[1:]):
                self.assertEqual((other - one, falls_of_one - falls_of_other), (1, 1))
            self.assertEqual(found[-1][1], 0)
            self.assertEqual(found[-1][0], least_houses(("again", 3), numbers))


class SearchTest(unittest.TestCase):
    """Small cases are held against all weavings."""

    def test_falls_of_all_short_lists(self):
        for size, behind, length in [(1, 6, 4), (2, 8, 4), (3, 9, 4), (4, 12, 3)]:
            for houses in (1, 2, 3):
                words = ("take", "end", "fall")
                found = cheapest_books(("again", size), houses, behind, length, words, "fall")
                for numbers in all_lists(behind, length):
                    known = found.get(tuple(numbers))
                    if in_lots(size, numbers):
                        self.assertEqual(fewest_falls(size, houses, numbers), known, (size, houses, numbers))
                    else:
                        self.assertIsNone(known)

    def test_fails_make_no_book_with_fewer_falls(self):
        for size in (1, 2):
            for houses in (1, 2):
                words = ("take", "end", "fail", "fall")
                found = cheapest_books(("again", size), houses, 6, 3, words, "fall")
                for numbers, known in found.items():
                    self.assertEqual(fewest_falls(size, houses, list(numbers)), known)

    def test_fails_of_all_short_books(self):
        for size, behind, length, most in [(1, 6, 4, 3), (2, 8, 3, 3), (3, 9, 3, 3), (4, 12, 3, 2)]:
            for houses in range(1, most + 1):
                found = cheapest_books(("lost", size), houses, behind, length, paid="fail")
                for numbers in all_lists(behind, length):
                    known = found.get(tuple(numbers))
                    if known is None:
                        fault = told_fault(("lost", size), houses, numbers)
                        check_error(self, NotABook, fewest_fails, (size, houses, numbers), index=fault)
                    else:
                        self.assertEqual(fewest_fails(size, houses, numbers), known, (size, houses, numbers))

    def test_mixed_lists(self):
        source = random.Random(3)
        tried = 0
        while tried < 150:
            size, houses = source.choice([2, 3, 4]), source.choice([2, 2, 3])
            numbers = source.sample(range(size * 4), source.randint(1, 4))
            if told_book(("lost", size), houses, numbers):
                tried += 1
                fewest = fewest_paid(("lost", size), houses, numbers, ("take", "end", "fail"), "fail")
                self.assertEqual(fewest_fails(size, houses, numbers), fewest, (size, houses, numbers))
        for seed in range(200):
            size, houses = seed % 4 + 1, seed % 3 + 1
            numbers = lot_list(size, 3 + seed % 3, 6, seed)
            fewest = fewest_paid(("again", size), houses, numbers, ("take", "end", "fall"), "fall")
            self.assertEqual(fewest_falls(size, houses, numbers), fewest, (size, houses, numbers))


class WeavingTest(unittest.TestCase):
    def check(self, size, houses, numbers):
        weaving = weaving_with_falls(size, houses, numbers)
        counts = check_settles(self, ("again", size), houses, weaving, numbers)
        self.assertEqual(counts["fall"], fewest_falls(size, houses, numbers))
        return counts

    def test_all_short_lists(self):
        for size in (1, 2, 3):
            for numbers in all_lists(6, 4):
                if in_lots(size, numbers):
                    _, least = greatest_values(size, numbers)
                    for houses in (1, 2, 3, 4, 5):
                        if houses < least:
                            arguments = (size, houses, numbers)
                            check_error(self, TooFewHouses, weaving_with_falls, arguments, least=least)
                        else:
                            self.check(size, houses, numbers)

    def test_long_lists(self):
        for seed in range(60):
            size = seed % 6 + 1
            lots = (3, 8, 20, 60, 151)[seed % 5]
            for length in (25, 200):
                numbers = lot_list(size, lots, length, seed)
                enough, least = greatest_values(size, numbers[:25])
                for houses in {least, least + 1, enough, 20}:
                    if least <= houses <= 20:
                        self.check(size, houses, numbers[:25])
                for houses in (1, 5, 20):
                    least = greatest_values(size, numbers)[1]
                    if houses < least:
                        arguments = (size, houses, numbers)
                        check_error(self, TooFewHouses, weaving_with_falls, arguments, least=least)
                    else:
                        self.check(size, houses, numbers)

    def test_no_falls_with_enough_houses(self):
        for houses in range(1, 21):
            numbers = book_by_rule(3, houses, 150, houses)
            self.assertEqual(self.check(3, houses, numbers)["fall"], 0)

    def test_one_house_less_than_v(self):
        for least in range(2, 21):
            numbers = [3 * lot for lot in range(least - 1, -1, -1)] + [1]
            self.assertEqual(greatest_values(3, numbers)[1], least)
            self.check(3, least, numbers)
            self.assertEqual(fewest_falls(3, least, numbers), 0)
            self.assertIsNone(fewest_falls(3, least - 1, numbers))
            check_error(self, TooFewHouses, weaving_with_falls, (3, least - 1, numbers), least=least)
        check_error(self, TooFewHouses, weaving_with_falls, (1, 20, list(range(20, -1, -1))), least=21)
        check_error(self, TooFewHouses, weaving_with_falls, (1, 20, list(range(199, -1, -1))), least=200)

    def test_the_lots_150_and_151(self):
        for size in (1, 2, 200, HUGE):
            for houses in (1, 2, 20):
                counts = self.check(size, houses, [150 * size])
                self.assertEqual(counts["fall"], 151 - houses)
                check_error(self, TooLong, weaving_with_falls, (size, houses, [151 * size]), limit=150)
                check_error(self, TooLong, weaving_with_falls, (size, houses, [0, 500 * size]), limit=150)
        check_error(self, TooLong, weaving_with_falls, (1, 20, [10 ** 29]), limit=150)
        self.assertEqual(fewest_falls(1, 1, [151]), 151)

    def test_few_houses_come_ahead_of_the_limit(self):
        check_error(self, TooFewHouses, weaving_with_falls, (2, 1, [302, 0]), least=2)
        check_error(self, TooLong, weaving_with_falls, (2, 2, [302, 0]), limit=150)
        check_error(self, NotABook, weaving_with_falls, (2, 1, [302, 0, 2, 2]), index=3)

    def test_as_many_events_as_there_can_be(self):
        for size in (200, 1000, HUGE):
            numbers = list(range(150 * size, 150 * size + 200))
            counts = self.check(size, 1, numbers)
            self.assertEqual(counts["fall"], 150)
        # All lots but the last ones are heard once, and fall behind that.
        numbers = [2 * lot for lot in range(151)] + [301]
        self.assertEqual(self.check(2, 1, numbers)["fall"], 150)
        numbers = [3 * lot for lot in range(150, -1, -20)]
        self.check(3, 8, numbers + [number + 1 for number in numbers])


class FailsTest(unittest.TestCase):
    def test_all_choices_of_lots(self):
        source = random.Random(8)
        tried = 0
        while tried < 120:
            size = source.choice([1, 2, 5, 9, 50, HUGE])
            houses = source.choice([1, 2, 3, 4])
            lots = source.sample(range(7), source.randint(1, 6))
            lots += source.sample(lots, source.randint(0, len(lots)))
            numbers = []
            for lot in lots:
                ahead = [number for number in numbers if number // size == lot]
                first = max(ahead, default=lot * size - 1) + 1
                numbers.append(min(first + source.choice([0, 1, 3]), lot * size + size - 1))
            if told_book(("lost", size), houses, numbers):
                tried += 1
                fewest = fails_by_subsets(size, houses, numbers)
                self.assertEqual(fewest_fails(size, houses, numbers), fewest, (size, houses, numbers))

    def test_no_weaving_has_fewer(self):
        for houses in range(1, 21):
            for size in (1, 2, 3, 20):
                numbers = lost_book(size, houses, 200, houses, 200)
                fewest = fewest_fails(size, houses, numbers)
                weaving = weaving_for(("lost", size), houses, numbers)
                self.assertLessEqual(fewest, count_words(weaving)["fail"])
                self.assertGreaterEqual(fewest, 0)
                if houses < 20:
                    self.assertLessEqual(fewest_fails(size, houses + 1, numbers), fewest)

    def test_without_holes_nothing_fails(self):
        for size in (1, 2, 7, HUGE):
            for length in (1, 199, 200):
                self.assertEqual(fewest_fails(size, 1, list(range(length))), 0)
        self.assertEqual(fewest_fails(3, 3, [6, 0, 3, 1, 7, 8, 4, 2, 5]), 0)

    def test_rests_that_can_be_kept(self):
        # The rests of the lots 0 to 3 have 9, 2, 7 and 10 numbers; one house is needed for the last lot.
        numbers = [0, 10, 11, 12, 13, 14, 15, 16, 17, 20, 21, 22, 40]
        self.assertEqual(fewest_fails(10, 1, numbers), 9 + 2 + 7 + 10)
        self.assertEqual(fewest_fails(10, 2, numbers), 9 + 2 + 7)
        self.assertEqual(fewest_fails(10, 3, numbers), 2 + 7)
        self.assertEqual(fewest_fails(10, 4, numbers), 2)
        self.assertEqual(fewest_fails(10, 5, numbers), 0)

    def test_lots_that_are_heard_later_hold_their_houses(self):
        self.assertEqual(fewest_fails(10, 2, [0, 20, 1]), 10)
        self.assertEqual(fewest_fails(10, 2, [0, 20]), 9)
        self.assertEqual(fewest_fails(10, 3, [0, 20, 1]), 0)
        self.assertEqual(fewest_fails(10, 2, [0, 20, 21, 5]), 10 + 4)

    def test_great_numbers(self):
        self.assertEqual(fewest_fails(HUGE, 1, [500 * HUGE]), 500 * HUGE)
        self.assertEqual(fewest_fails(HUGE, 20, [500 * HUGE]), 481 * HUGE)
        self.assertEqual(fewest_fails(HUGE, 20, [HUGE - 1]), HUGE - 1)
        self.assertEqual(fewest_fails(HUGE, 1, [HUGE - 1, HUGE]), HUGE - 1)

    def test_the_lots_500_and_501(self):
        for size in (1, 2, 30, HUGE):
            for houses in (1, 20):
                kept = houses - 1
                self.assertEqual(fewest_fails(size, houses, [500 * size]), (500 - kept) * size)
                self.assertEqual(fewest_fails(size, houses, [501 * size - 1]), (500 - kept) * size + size - 1)
                check_error(self, TooLong, fewest_fails, (size, houses, [501 * size]), limit=500)
                check_error(self, TooLong, fewest_fails, (size, houses, [0, 700 * size]), limit=500)
                check_error(self, NotABook, fewest_fails, (size, 1, [501 * size, 0]), index=1)
        check_error(self, TooLong, fewest_fails, (1, 20, [10 ** 30 - 1]), limit=500)

    def test_no_book_at_each_place(self):
        numbers = lost_book(3, 4, 20, 5)
        for place in range(len(numbers)):
            for other in [numbers[0], numbers[place - 1], numbers[-1] + 60]:
                wrong = numbers[:place] + [other] + numbers[place:]
                fault = told_fault(("lost", 3), 4, wrong)
                if fault is not None:
                    check_error(self, NotABook, fewest_fails, (3, 4, wrong), index=fault)
                else:
                    self.assertTrue(is_book(("lost", 3), 4, wrong))


class ErrorsTest(unittest.TestCase):
    def test_sizes(self):
        for size in WRONG_SIZES:
            for call in WITHOUT_HOUSES:
                check_error(self, InvalidSize, call, (size, [0]))
            for call in WITH_HOUSES + [fewest_fails]:
                check_error(self, InvalidSize, call, (size, 2, [0]))

    def test_houses(self):
        for houses in WRONG_HOUSES:
            for call in WITH_HOUSES + [fewest_fails]:
                check_error(self, InvalidHouses, call, (2, houses, [0]))

    def test_numbers(self):
        for call in NAMES:
            ahead = (2,) if call in WITHOUT_HOUSES else (2, 20)
            for value in NO_NUMBER_LISTS:
                check_error(self, InvalidNumbers, call, ahead + (value,), index=None)
            for item in NO_NUMBERS:
                check_error(self, InvalidNumbers, call, ahead + ([item],), index=0)
                check_error(self, InvalidNumbers, call, ahead + ([3, 3, item, item],), index=2)

    def test_lists_that_do_not_lie_in_lots(self):
        for size in (1, 2, 3):
            for numbers in all_lists(6, 3):
                faults = [k for k in range(len(numbers)) if not in_lots(size, numbers[:k + 1])]
                if faults:
                    for call in WITHOUT_HOUSES:
                        check_error(self, NotABook, call, (size, numbers), index=faults[0])
                    for call in WITH_HOUSES:
                        check_error(self, NotABook, call, (size, 1, numbers), index=faults[0])

    def test_the_first_argument_that_is_wrong_tells(self):
        size = (HUGE + 1, InvalidSize, {})
        houses = (0, InvalidHouses, {})
        numbers = ([0, -1], InvalidNumbers, {"index": 1})
        for call in WITHOUT_HOUSES:
            check_first_wrong(self, call, (1, [0]), [size, numbers])
        for call in WITH_HOUSES + [fewest_fails]:
            check_first_wrong(self, call, (1, 2, [0]), [size, houses, numbers])

    def test_an_error_leaves_nothing_behind(self):
        before = [weaving_with_falls(2, 2, [4, 0]), fewest_fails(2, 1, [1, 5]), houses_and_falls(2, [4, 0])]
        check_error(self, NotABook, weaving_with_falls, (2, 2, [4, 0, 0]), index=2)
        check_error(self, TooFewHouses, weaving_with_falls, (2, 1, [4, 0]), least=2)
        check_error(self, TooLong, fewest_fails, (2, 1, [1002]), limit=500)
        after = [weaving_with_falls(2, 2, [4, 0]), fewest_fails(2, 1, [1, 5]), houses_and_falls(2, [4, 0])]
        self.assertEqual(after, before)


if __name__ == "__main__":
    unittest.main()
