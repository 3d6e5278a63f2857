"""DOC.md [2] to [4], [26] and [27]: holesleft.compare."""

import itertools
import unittest

from holesleft import compare
from holesleft.books import is_book
from holesleft.compare import parting_book, same_books, sizes_that_fit
from holesleft.errors import InvalidHouses, InvalidNumber, InvalidNumbers, InvalidScheme
from tests.calls import check_error, check_first_wrong, check_integer, check_new_list, check_parameters
from tests.lists import all_lists, in_lots, lot_list, needed_houses
from tests.model import HUGE, SCHEMES, SMALL_SCHEMES
from tests.wrong import NO_NUMBERS, NO_NUMBER_LISTS, WRONG_HOUSES, WRONG_SCHEMES

BOTH = ["one", "one_houses", "other", "other_houses"]
NAMES = {same_books: BOTH, parting_book: BOTH, sizes_that_fit: ["numbers", "most"]}
WIDE_SCHEMES = SCHEMES + [("lost", 4), ("lost", 7), ("again", 4), ("again", 7), ("lost", HUGE - 1), ("again", HUGE - 1)]


def told_same(one, one_houses, other, other_houses):
    """Tell whether both have the same books, case by case as point 26 lists them."""
    def deals_in_turn(scheme, houses):
        return scheme[0] == "late" or (scheme[0] in ("again", "pool") and houses == 1)

    def as_again(scheme):
        return ("again", 1) if scheme[0] == "pool" else scheme

    if deals_in_turn(one, one_houses) and deals_in_turn(other, other_houses):
        return True
    if one[0] == other[0] == "lost" and one_houses == other_houses == 1:
        return True
    if one[0] == "late" or other[0] == "late":
        return False
    return as_again(one) == as_again(other) and one_houses == other_houses


class InterfaceTest(unittest.TestCase):
    def test_parameters(self):
        for call, names in NAMES.items():
            check_parameters(self, call, names)
            self.assertIs(getattr(compare, call.__name__), call)
            self.assertEqual(call.__module__, "holesleft.compare")

    def test_arguments_stay_and_lists_are_new(self):
        for one, other in itertools.combinations(SCHEMES, 2):
            if one[0] != "pool" and other[0] != "pool":
                arguments = (one, 2, other, 3)
                check_new_list(self, parting_book, arguments, dict(zip(BOTH, arguments)))
        for numbers in [[], [0, 1, 2], [4, 0, 1, 5, 2]]:
            check_new_list(self, sizes_that_fit, (list(numbers), 12), {"numbers": list(numbers), "most": 12})

    def test_values_by_position_and_by_name(self):
        check_integer(self, same_books, dict(zip(BOTH, (("lost", 2), 2, ("lost", 2), 2))), True)
        check_integer(self, same_books, dict(zip(BOTH, (("lost", 2), 2, ("lost", 2), 3))), False)
        check_integer(self, parting_book, dict(zip(BOTH, (("lost", 2), 2, ("lost", 2), 2))), None)


class BooksTest(unittest.TestCase):
    def check(self, one, one_houses, other, other_houses):
        """Check what can be seen without other lists, and return the parting book."""
        told = (one, one_houses, other, other_houses)
        same = same_books(*told)
        book = parting_book(*told)
        self.assertIs(same, told_same(*told), told)
        self.assertIs(book is None, same, told)
        self.assertEqual(parting_book(other, other_houses, one, one_houses), book)
        self.assertIs(same_books(other, other_houses, one, one_houses), same)
        if book is not None:
            self.assertNotEqual(is_book(one, one_houses, book), is_book(other, other_houses, book), told)
        return book

    def test_small_cases_against_all_lists(self):
        lists = all_lists(5, 4) + [row for row in all_lists(13, 2) if max(row, default=0) > 4]
        lists = sorted(lists, key=lambda row: (len(row), row))
        needed = {scheme: [needed_houses(scheme, row) for row in lists] for scheme in SMALL_SCHEMES}
        ways = [(scheme, houses) for scheme in SMALL_SCHEMES for houses in (1, 2, 3, 4)]
        for (one, one_houses), (other, other_houses) in itertools.combinations_with_replacement(ways, 2):
            book = self.check(one, one_houses, other, other_houses)
            parted = []
            for row, first, second in zip(lists, needed[one], needed[other]):
                if ((first or 99) <= one_houses) != ((second or 99) <= other_houses):
                    parted.append(row)
                    break
            if book in lists:
                self.assertEqual(parted, [book], (one, one_houses, other, other_houses))
            elif book is not None:
                # Of the lists that were tried, then, none is as short and none parts the two.
                self.assertEqual(parted, [], (one, one_houses, other, other_houses))

    def test_no_lesser_list_parts_lost_with_more_houses(self):
        for size, few, many in [(1, 2, 3), (1, 3, 4), (2, 2, 3), (2, 2, 20), (2, 3, 20), (3, 2, 4), (4, 1, 2)]:
            book = self.check(("lost", size), few, ("lost", size), many)
            self.assertEqual(book, [few * size, *range(0, few * size, size)])
            bound = few * size + 2
            for length in range(1, len(book) + 1):
                for row in itertools.product(range(bound), repeat=length):
                    if length == len(book) and list(row) >= book:
                        break
                    row = list(row)
                    self.assertEqual(is_book(("lost", size), few, row), is_book(("lost", size), many, row))

    def test_all_schemes_and_houses(self):
        for one in WIDE_SCHEMES:
            for other in WIDE_SCHEMES:
                for one_houses in (1, 2, 3, 19, 20):
                    for other_houses in (1, 2, 3, 19, 20):
                        self.check(one, one_houses, other, other_houses)

    def test_the_same_scheme(self):
        for scheme in SCHEMES:
            for few in range(1, 21):
                for many in range(1, 21):
                    book = self.check(scheme, few, scheme, many)
                    self.assertIs(book is None, few == many or scheme == ("late",))

    def test_pool_counts_as_again_with_lots_of_one(self):
        for order in ["least", "greatest", "oldest", "newest"]:
            for houses in range(1, 21):
                self.assertTrue(same_books(("pool", order), houses, ("again", 1), houses))
                self.assertTrue(same_books(("pool", "oldest"), houses, ("pool", order), houses))
                self.assertIs(same_books(("pool", order), houses, ("again", 2), houses), houses == 1)
                self.assertIs(same_books(("pool", order), houses, ("lost", 1), houses), False)

    def test_one_house(self):
        for one in SCHEMES:
            for other in SCHEMES:
                expected = None if (one[0] == "lost") == (other[0] == "lost") else [1]
                self.assertEqual(self.check(one, 1, other, 1), expected)
                if one == ("late",):
                    self.assertEqual(self.check(one, 20, other, 1), expected)

    def test_huge_lots(self):
        near = HUGE - 1
        self.assertEqual(self.check(("again", HUGE), 2, ("again", near), 2), [near])
        self.assertEqual(self.check(("again", HUGE), 20, ("again", HUGE), 19), [19 * HUGE])
        self.assertEqual(self.check(("again", HUGE), 20, ("late",), 20), [HUGE])
        self.assertEqual(self.check(("again", HUGE), 20, ("lost", HUGE), 20), [1])
        self.assertEqual(self.check(("lost", HUGE), 20, ("lost", near), 20), [near, 0])
        self.assertEqual(self.check(("lost", HUGE), 1, ("lost", near), 20), [near, 0])
        book = [19 * HUGE, *[lot * HUGE for lot in range(19)]]
        self.assertEqual(self.check(("lost", HUGE), 20, ("lost", HUGE), 19), book)

    def test_first_numbers(self):
        self.assertEqual(self.check(("again", 2), 5, ("again", 4), 3), [2])
        self.assertEqual(self.check(("again", 2), 1, ("again", 4), 3), [4])
        self.assertEqual(self.check(("again", 1), 7, ("lost", 5), 3), [7])
        self.assertEqual(self.check(("pool", "newest"), 20, ("lost", 1), 1), [20])
        self.assertEqual(self.check(("late",), 7, ("lost", 5), 3), [1])


class SizesTest(unittest.TestCase):
    def check(self, numbers, most):
        sizes = sizes_that_fit(numbers, most)
        self.assertEqual(sizes, [size for size in range(1, most + 1) if in_lots(size, numbers)], (numbers, most))
        for size in sizes:
            divisors = [other for other in range(1, size + 1) if size % other == 0]
            self.assertLessEqual(set(divisors), set(sizes))
        return sizes

    def test_all_short_lists(self):
        for numbers in all_lists(6, 4):
            self.check(numbers, 8)

    def test_lists_in_lots(self):
        for size in (1, 2, 3, 6, 12, 30):
            for seed in range(6):
                for length in (0, 1, 5, 40):
                    self.assertIn(size, self.check(lot_list(size, 6, length, seed), 60))

    def test_long_lists(self):
        for size in (1, 4, 60, 1000):
            numbers = lot_list(size, 300, 200, size)
            self.assertEqual(len(numbers), 200)
            self.assertIn(size, sizes_that_fit(numbers, 1000))
            # The changed number is not the first one of its lot, unless lots have one number.
            changed = numbers[:-1] + [10 ** 29 * size + 1]
            self.assertIs(size in sizes_that_fit(changed, 1000), size == 1)

    def test_sizes_greater_than_all_numbers(self):
        self.assertEqual(sizes_that_fit(list(range(200)), 1000), list(range(1, 1001)))
        self.assertEqual(sizes_that_fit([1, 0], 1000), [1])
        self.assertEqual(sizes_that_fit([12, 0], 1000), [1, 2, 3, 4, 6, 12])
        self.assertEqual(sizes_that_fit([0, 0], 1000), [])

    def test_huge_numbers(self):
        self.assertEqual(sizes_that_fit([10 ** 29], 10), [1, 2, 4, 5, 8, 10])
        self.assertEqual(self.check([HUGE, 0, HUGE + 1], 10), [1, 3, 7, 9])
        self.assertEqual(sizes_that_fit([HUGE, 1], 10), [1])

    def test_most(self):
        for most in (1, 2, 999, 1000):
            self.assertEqual(sizes_that_fit([], most), list(range(1, most + 1)))
            self.assertEqual(sizes_that_fit([1000], most), [size for size in range(1, most + 1) if 1000 % size == 0])


class ErrorsTest(unittest.TestCase):
    def test_schemes_and_houses(self):
        for call in (same_books, parting_book):
            for value in WRONG_SCHEMES:
                check_error(self, InvalidScheme, call, (value, 2, ("late",), 2))
                check_error(self, InvalidScheme, call, (("late",), 2, value, 2))
            for value in WRONG_HOUSES:
                check_error(self, InvalidHouses, call, (("late",), value, ("late",), 2))
                check_error(self, InvalidHouses, call, (("late",), 2, ("late",), value))
            for houses in (1, 20):
                call(("late",), houses, ("pool", "oldest"), 21 - houses)

    def test_numbers(self):
        for value in NO_NUMBER_LISTS:
            check_error(self, InvalidNumbers, sizes_that_fit, (value, 5), index=None)
        for value in NO_NUMBERS:
            check_error(self, InvalidNumbers, sizes_that_fit, ([7, 7, value, value], 5), index=2)
        sizes_that_fit(list(range(200)), 5)

    def test_most(self):
        for value in [value for value in NO_NUMBERS if value != 0] + [0, 1001, 1002, 10 ** 40, True, False]:
            check_error(self, InvalidNumber, sizes_that_fit, ([], value))

    def test_the_first_wrong_argument_tells(self):
        scheme, houses = (("lost",), InvalidScheme, {}), (21, InvalidHouses, {})
        for call in (same_books, parting_book):
            check_first_wrong(self, call, (("late",), 2, ("again", 2), 2), [scheme, houses, scheme, houses])
        wrongs = [([0, 1, None], InvalidNumbers, {"index": 2}), (0, InvalidNumber, {})]
        check_first_wrong(self, sizes_that_fit, ([0, 1], 5), wrongs)


if __name__ == "__main__":
    unittest.main()
