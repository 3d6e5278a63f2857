"""DOC.md [2] to [4], [9], [16] and [17]: holesleft.words."""

import itertools
import math
import unittest

from holesleft import words
from holesleft.books import book_fault, is_book, weaving_for
from holesleft.errors import InvalidDigits, InvalidHouses, InvalidIndex, InvalidNumber, InvalidNumbers, InvalidSize
from holesleft.errors import NotABook
from holesleft.runs import count_holes
from holesleft.words import book_index, book_of_digits, count_books, count_by_holes, count_full, digits_of
from holesleft.words import next_numbers, nth_book
from tests.calls import check_error, check_first_wrong, check_integer, check_new_list, check_parameters
from tests.lists import all_lists, book_by_rule, digit_at, in_lots, lot_list, mixed_digits, told_book, told_fault
from tests.model import HUGE
from tests.search import cheapest_books
from tests.wrong import NO_NUMBER_LISTS, NO_NUMBERS, WRONG_HOUSES, WRONG_SIZES

NAMES = {
    digits_of: ["size", "numbers"],
    book_of_digits: ["size", "digits"],
    next_numbers: ["size", "houses", "numbers"],
    count_books: ["houses", "length"],
    nth_book: ["size", "houses", "length", "index"],
    book_index: ["size", "houses", "numbers"],
    count_by_holes: ["houses", "length"],
    count_full: ["per_lot", "houses", "lots"],
}


def first_lot_fault(size, numbers):
    for place in range(len(numbers)):
        if not in_lots(size, numbers[:place + 1]):
            return place
    return None


class InterfaceTest(unittest.TestCase):
    def test_parameters(self):
        for call, names in NAMES.items():
            check_parameters(self, call, names)
            self.assertIs(getattr(words, call.__name__), call)
            self.assertEqual(call.__module__, "holesleft.words")

    def test_arguments_stay_and_lists_are_new(self):
        for call, arguments in [
            (digits_of, (2, [2, 0, 1, 3])), (digits_of, (2, [])),
            (book_of_digits, (2, [1, 0, 0, 0])), (book_of_digits, (2, [])),
            (next_numbers, (2, 2, [2])), (next_numbers, (2, 20, [])),
            (nth_book, (2, 2, 4, 8)), (nth_book, (2, 2, 0, 0)),
            (count_by_holes, (3, 2)), (count_by_holes, (1, 0)),
        ]:
            check_new_list(self, call, arguments, dict(zip(NAMES[call], arguments)))

    def test_integers_by_position_and_by_name(self):
        check_integer(self, count_books, {"houses": 3, "length": 4}, 81)
        check_integer(self, book_index, {"size": 2, "houses": 2, "numbers": [2, 0, 1, 3]}, 8)
        check_integer(self, count_full, {"per_lot": 2, "houses": 2, "lots": 2}, 6)


class DigitsTest(unittest.TestCase):
    def test_all_short_lists(self):
        for size in (1, 2, 3):
            for numbers in all_lists(6, 4):
                fault = first_lot_fault(size, numbers)
                if fault is None:
                    digits = [digit_at(size, numbers, place) for place in range(len(numbers))]
                    self.assertEqual(digits_of(size, numbers), digits)
                    self.assertEqual(book_of_digits(size, digits), numbers)
                else:
                    check_error(self, NotABook, digits_of, (size, numbers), index=fault)

    def test_all_short_words(self):
        for size in (1, 2, 3, 5):
            for digits in all_lists(4, 4):
                numbers = book_of_digits(size, digits)
                self.assertTrue(in_lots(size, numbers))
                self.assertEqual([digit_at(size, numbers, place) for place in range(len(numbers))], digits)
                self.assertEqual(digits_of(size, numbers), digits)

    def test_long_words(self):
        for houses in range(1, 21):
            for size in (1, 2, 9, 200):
                digits = mixed_digits(houses, 200, houses)
                numbers = book_of_digits(size, digits)
                self.assertEqual(numbers, book_by_rule(size, houses, 200, houses))
                self.assertEqual(digits_of(size, numbers), digits)

    def test_long_lists_in_lots(self):
        for seed in range(20):
            size = seed % 5 + 1
            numbers = lot_list(size, 30 + seed, 90, seed)
            digits = digits_of(size, numbers)
            self.assertEqual(digits, [digit_at(size, numbers, place) for place in range(len(numbers))])
            self.assertEqual(book_of_digits(size, digits), numbers)

    def test_great_digits(self):
        for digit in [20, 200, 10 ** 29, 10 ** 30 - 1, 10 ** 60]:
            self.assertEqual(book_of_digits(1, [digit, 0, digit]), [digit, 0, digit + 2])
            self.assertEqual(book_of_digits(2, [digit, 0, digit]), [2 * digit, 0, 2 * digit + 1])
            self.assertEqual(book_of_digits(HUGE, [digit]), [HUGE * digit])
            self.assertEqual(digits_of(1, [digit, 0, digit + 2]), [digit, 0, digit])
            self.assertEqual(digits_of(HUGE, [HUGE * digit, HUGE * digit + 1]), [digit, digit])

    def test_lots_that_are_finished_are_passed_over(self):
        self.assertEqual(book_of_digits(1, [1, 2, 1, 0, 0]), [1, 3, 2, 0, 4])
        self.assertEqual(digits_of(1, [1, 3, 2, 0, 4]), [1, 2, 1, 0, 0])
        self.assertEqual(book_of_digits(2, [1, 1, 1, 0, 0, 0]), [2, 3, 4, 0, 1, 5])

    def test_a_wrong_number_at_each_place(self):
        for size in (1, 2, 4):
            numbers = lot_list(size, 12, 12, size)
            for place, number in enumerate(numbers):
                for other in [number + size + 1, number - 1, number // size * size + size - 1, numbers[0]]:
                    wrong = numbers[:place] + [max(other, 0)] + numbers[place + 1:]
                    fault = first_lot_fault(size, wrong)
                    if fault is None:
                        digits_of(size, wrong)
                    else:
                        check_error(self, NotABook, digits_of, (size, wrong), index=fault)
        check_error(self, NotABook, digits_of, (HUGE, [0, 1, 3]), index=2)
        check_error(self, NotABook, digits_of, (2, [10 ** 30 - 1]), index=0)

    def test_199_200_and_201(self):
        for length in (199, 200):
            self.assertEqual(digits_of(1, list(range(length))), [0] * length)
            self.assertEqual(book_of_digits(1, [0] * length), list(range(length)))
            self.assertEqual(book_of_digits(HUGE, [19] * length), list(range(19 * HUGE, 19 * HUGE + length)))
        check_error(self, InvalidNumbers, digits_of, (1, list(range(201))), index=None)
        check_error(self, InvalidDigits, book_of_digits, (1, [0] * 201))

    def test_wrong_digits(self):
        for value in NO_NUMBER_LISTS:
            check_error(self, InvalidDigits, book_of_digits, (2, value))
        for item in NO_NUMBERS:
            check_error(self, InvalidDigits, book_of_digits, (2, [item]))
            check_error(self, InvalidDigits, book_of_digits, (2, [0, 1, item, 0]))
            check_error(self, InvalidDigits, book_of_digits, (2, [0] * 199 + [item]))


class NextTest(unittest.TestCase):
    def test_just_the_numbers_that_make_a_book(self):
        for size, houses in itertools.product((1, 2, 3), (1, 2, 3)):
            for digits in all_lists(houses, 4):
                numbers = book_of_digits(size, digits)
                expected = [number for number in range(25) if told_book(("again", size), houses, numbers + [number])]
                self.assertEqual(next_numbers(size, houses, numbers), expected)
                self.assertEqual(len(expected), houses)

    def test_behind_200_numbers(self):
        self.assertEqual(next_numbers(1, 3, list(range(200))), [200, 201, 202])
        self.assertEqual(next_numbers(HUGE, 3, list(range(199))), [199, HUGE, 2 * HUGE])
        for houses in (1, 2, 20):
            numbers = book_by_rule(3, houses, 200, 8)
            found = next_numbers(3, houses, numbers)
            self.assertEqual(len(found), houses)
            for digit, number in enumerate(found):
                self.assertTrue(in_lots(3, numbers + [number]))
                self.assertEqual(digit_at(3, numbers + [number], 200), digit)
        check_error(self, InvalidNumbers, next_numbers, (1, 3, list(range(201))), index=None)

    def test_no_book(self):
        for size, houses in [(1, 2), (2, 1), (2, 3)]:
            for numbers in all_lists(6, 3):
                fault = told_fault(("again", size), houses, numbers)
                if fault is not None:
                    check_error(self, NotABook, next_numbers, (size, houses, numbers), index=fault)
                    check_error(self, NotABook, book_index, (size, houses, numbers), index=fault)


class CountTest(unittest.TestCase):
    def test_as_many_as_there_are(self):
        for houses in (1, 2, 3):
            for size in (1, 2, 3):
                found = cheapest_books(("again", size), houses, 12, 4, ("take", "end"))
                for length in range(5):
                    many = len([book for book in found if len(book) == length])
                    self.assertEqual(count_books(houses, length), many)

    def test_edges(self):
        for houses in range(1, 21):
            self.assertEqual(count_books(houses, 0), 1)
            self.assertEqual(count_books(houses, 1), houses)
            self.assertEqual(count_books(houses, 199), houses ** 199)
            self.assertEqual(count_books(houses, 200), houses ** 200)
        for length in [-1, 201, 202, 10 ** 40, -10 ** 40, True, False, None, "3", 3.0, [3], (3,), {}, object()]:
            check_error(self, InvalidNumber, count_books, (3, length))
            check_error(self, InvalidNumber, count_by_holes, (3, length))
            check_error(self, InvalidNumber, nth_book, (2, 3, length, 0))


class IndexTest(unittest.TestCase):
    def test_all_short_books_in_ascending_order(self):
        for size, houses, length in itertools.product((1, 2, 3), (1, 2, 3), (0, 1, 2, 3, 4)):
            books = sorted(book_of_digits(size, list(word)) for word in itertools.product(range(houses), repeat=length))
            for index, numbers in enumerate(books):
                self.assertTrue(told_book(("again", size), houses, numbers))
                self.assertEqual(nth_book(size, houses, length, index), numbers)
                self.assertEqual(book_index(size, houses, numbers), index)
            self.assertEqual(len(books), count_books(houses, length))

    def test_each_undoes_the_other(self):
        for houses in range(1, 21):
            for size in (1, 2, 6, HUGE):
                for length in (1, 50, 200):
                    many = houses ** length
                    for index in sorted({0, 1, many // 3, many // 2 + 1, many - 2, many - 1}):
                        if 0 <= index < many:
                            numbers = nth_book(size, houses, length, index)
                            self.assertIs(is_book(("again", size), houses, numbers), True)
                            self.assertEqual(len(numbers), length)
                            self.assertEqual(book_index(size, houses, numbers), index)
                numbers = nth_book(size, houses, 200, 7 ** 71 % houses ** 200)
                self.assertEqual(nth_book(size, houses, 200, book_index(size, houses, numbers)), numbers)

    def test_neighbours_ascend(self):
        for houses in (2, 3, 20):
            for size in (1, 3):
                for index in [0, 5, houses ** 60 // 7, houses ** 60 - 2]:
                    one, other = [nth_book(size, houses, 60, index + k) for k in (0, 1)]
                    self.assertLess(one, other)
                    self.assertEqual(book_index(size, houses, other) - book_index(size, houses, one), 1)

    def test_the_first_the_last_and_the_one_behind_it(self):
        for houses in range(1, 21):
            for size in (1, 3, HUGE):
                for length in (0, 1, 2, 200):
                    last = houses ** length - 1
                    self.assertEqual(digits_of(size, nth_book(size, houses, length, 0)), [0] * length)
                    self.assertEqual(digits_of(size, nth_book(size, houses, length, last)), [houses - 1] * length)
                    check_error(self, InvalidIndex, nth_book, (size, houses, length, last + 1))
                    check_error(self, InvalidIndex, nth_book, (size, houses, length, -1))
        self.assertEqual(nth_book(4, 1, 0, 0), [])
        self.assertEqual(book_index(4, 9, []), 0)

    def test_wrong_indexes(self):
        for index in [-1, 16, 17, 10 ** 299, -10 ** 299, 10 ** 400, True, False, None, "1", 1.0, [1], (1,), {}]:
            check_error(self, InvalidIndex, nth_book, (2, 2, 4, index))
        check_error(self, InvalidIndex, nth_book, (2, 20, 200, 10 ** 299))
        check_error(self, InvalidIndex, nth_book, (2, 20, 200, 20 ** 200))
        nth_book(2, 20, 200, 20 ** 200 - 1)

    def test_199_200_and_201_numbers(self):
        for length in (199, 200):
            self.assertEqual(book_index(1, 20, list(range(length))), 0)
            self.assertEqual(nth_book(1, 20, length, 0), list(range(length)))
            self.assertEqual(book_index(1, 20, list(range(19, 19 + length))), 20 ** length - 1)
        check_error(self, InvalidNumbers, book_index, (1, 20, list(range(201))), index=None)

    def test_one_house_less(self):
        for houses in range(2, 21):
            numbers = [0, 1, houses + 1]
            self.assertEqual(book_index(1, houses, numbers), houses - 1)
            check_error(self, NotABook, book_index, (1, houses - 1, numbers), index=2)
            check_error(self, NotABook, next_numbers, (1, houses - 1, numbers), index=2)
            self.assertEqual(book_fault(("again", 1), houses - 1, numbers), 2)


class HolesTest(unittest.TestCase):
    def test_all_short_books(self):
        for houses, length in itertools.product((1, 2, 3, 4), range(6)):
            many = [0] * houses
            for word in itertools.product(range(houses), repeat=length):
                numbers = book_of_digits(1, list(word))
                many[max(numbers, default=-1) + 1 - length] += 1
            self.assertEqual(count_by_holes(houses, length), many)

    def test_holes_as_the_runs_tell_them(self):
        many = [0] * 3
        for index in range(27):
            numbers = nth_book(1, 3, 3, index)
            many[count_holes(("pool", "least"), 3, weaving_for(("pool", "least"), 3, numbers))] += 1
        self.assertEqual(count_by_holes(3, 3), many)

    def test_edges(self):
        for houses in range(1, 21):
            self.assertEqual(count_by_holes(houses, 0), [1] + [0] * (houses - 1))
            self.assertEqual(count_by_holes(houses, 1), [1] * houses)
            for length in (2, 40, 199, 200):
                found = count_by_holes(houses, length)
                self.assertEqual(len(found), houses)
                self.assertEqual(sum(found), houses ** length)
        self.assertEqual(count_by_holes(1, 200), [1])
        self.assertEqual(count_by_holes(2, 200), [2 ** 199, 2 ** 199])

    def test_one_number_more(self):
        # No hole is left by the next number behind a full book, or by the last hole of a book with one.
        # As many holes as can be are left by the greatest number that can come, whatever is ahead of it.
        for houses in (2, 3, 7, 20):
            for length in (5, 30, 199):
                short, long = count_by_holes(houses, length), count_by_holes(houses, length + 1)
                self.assertEqual(long[0], short[0] + short[1])
                self.assertEqual(long[houses - 1], sum(short))


class FullTest(unittest.TestCase):
    def count_slowly(self, per_lot, houses, lots):
        numbers = range(per_lot * lots)
        rows = [[]]
        for _ in numbers:
            rows = [row + [number] for row in rows for number in numbers
                    if number not in row and told_book(("again", per_lot), houses, row + [number])]
        return len(rows)

    def test_small_lots(self):
        for per_lot, most in [(1, 5), (2, 3), (3, 2), (4, 1), (6, 1)]:
            for lots in range(1, most + 1):
                for houses in (1, 2, 3, 4, 20):
                    slowly = self.count_slowly(per_lot, houses, lots)
                    self.assertEqual(count_full(per_lot, houses, lots), slowly, (per_lot, houses, lots))

    def test_one_house(self):
        for per_lot, lots in itertools.product(range(1, 7), range(1, 9)):
            self.assertEqual(count_full(per_lot, 1, lots), 1)

    def test_as_many_houses_as_lots(self):
        for per_lot, lots in itertools.product(range(1, 7), range(1, 9)):
            every = math.factorial(per_lot * lots) // math.factorial(per_lot) ** lots
            for houses in {lots, lots + 1, 20}:
                self.assertEqual(count_full(per_lot, houses, lots), every)
            if lots > 1:
                self.assertLess(count_full(per_lot, lots - 1, lots), every)

    def test_lots_of_one(self):
        for houses, lots in itertools.product(range(1, 9), range(1, 9)):
            few = min(houses, lots)
            expected = math.factorial(few) * houses ** (lots - few)
            self.assertEqual(count_full(1, houses, lots), expected)

    def test_two_lots_at_a_time(self):
        # With two houses, told lot by lot: an open lot with so many numbers left waits beside the next one.
        def ways(per_lot, left, fresh):
            if fresh == 0:
                return 1
            total = 0
            for others in range(per_lot):
                # The waiting lot ends first, behind so many numbers of the new one.
                total += math.comb(left - 1 + others, others) * ways(per_lot, per_lot - others, fresh - 1)
            for used in range(left):
                # The new lot ends first, behind so many numbers of the waiting one.
                total += math.comb(per_lot - 1 + used, used) * ways(per_lot, left - used, fresh - 1)
            return total

        for per_lot in range(1, 7):
            for lots in range(1, 6):
                self.assertEqual(count_full(per_lot, 2, lots), ways(per_lot, per_lot, lots - 1))

    def test_edges(self):
        self.assertEqual(count_full(6, 20, 8), math.factorial(48) // 720 ** 8)
        wrong = [-1, 0, 10 ** 40, -10 ** 40, True, False, None, "2", 2.0, [2], (2,), {}, object()]
        for value in wrong + [7, 8]:
            check_error(self, InvalidNumber, count_full, (value, 2, 2))
        for value in wrong + [9, 10]:
            check_error(self, InvalidNumber, count_full, (2, 2, value))
        for value in WRONG_HOUSES:
            check_error(self, InvalidHouses, count_full, (2, value, 2))
        for per_lot, lots in [(1, 1), (6, 1), (1, 8), (6, 8)]:
            self.assertEqual(count_full(per_lot, 1, lots), 1)


class ErrorsTest(unittest.TestCase):
    def test_sizes(self):
        for size in WRONG_SIZES:
            for call, more in [(digits_of, ([0],)), (book_of_digits, ([0],)), (next_numbers, (2, [0])),
                               (nth_book, (2, 2, 0)), (book_index, (2, [0]))]:
                check_error(self, InvalidSize, call, (size,) + more)

    def test_houses(self):
        for houses in WRONG_HOUSES:
            for call, arguments in [(next_numbers, (2, houses, [0])), (nth_book, (2, houses, 2, 0)),
                                    (book_index, (2, houses, [0])), (count_books, (houses, 2)),
                                    (count_by_holes, (houses, 2))]:
                check_error(self, InvalidHouses, call, arguments)

    def test_numbers(self):
        for call, ahead in [(digits_of, (2,)), (next_numbers, (2, 2)), (book_index, (2, 2))]:
            for value in NO_NUMBER_LISTS:
                check_error(self, InvalidNumbers, call, ahead + (value,), index=None)
            for item in NO_NUMBERS:
                check_error(self, InvalidNumbers, call, ahead + ([item],), index=0)
                check_error(self, InvalidNumbers, call, ahead + ([0, 0, item, item],), index=2)

    def test_the_first_argument_that_is_wrong_tells(self):
        size = (0, InvalidSize, {})
        houses = (21, InvalidHouses, {})
        numbers = ([0, 0, True], InvalidNumbers, {"index": 2})
        number = (201, InvalidNumber, {})
        check_first_wrong(self, digits_of, (1, [0]), [size, numbers])
        check_first_wrong(self, book_of_digits, (1, [0]), [size, ((0,), InvalidDigits, {})])
        check_first_wrong(self, next_numbers, (1, 2, [0]), [size, houses, numbers])
        check_first_wrong(self, book_index, (1, 2, [0]), [size, houses, numbers])
        check_first_wrong(self, count_books, (2, 3), [houses, number])
        check_first_wrong(self, count_by_holes, (2, 3), [houses, number])
        check_first_wrong(self, nth_book, (1, 2, 3, 7), [size, houses, number, (8, InvalidIndex, {})])
        check_first_wrong(self, count_full, (1, 2, 3), [number, houses, number])

    def test_an_error_leaves_nothing_behind(self):
        before = [digits_of(2, [2, 0]), nth_book(2, 2, 4, 8), count_full(2, 2, 2)]
        check_error(self, NotABook, digits_of, (2, [2, 0, 5]), index=2)
        check_error(self, InvalidIndex, nth_book, (2, 2, 4, 16))
        check_error(self, InvalidNumber, count_full, (2, 2, 9))
        self.assertEqual([digits_of(2, [2, 0]), nth_book(2, 2, 4, 8), count_full(2, 2, 2)], before)


if __name__ == "__main__":
    unittest.main()
