"""DOC.md [2] to [4], [9] and [15]: holesleft.books."""

import unittest

from holesleft import books
from holesleft.books import book_fault, is_book, least_houses, lots_heard, weaving_for
from holesleft.errors import InvalidHouses, InvalidNumbers, InvalidScheme, InvalidSize, NotABook, TooLong
from tests.calls import check_error, check_first_wrong, check_integer, check_new_list, check_parameters, check_settles
from tests.lists import all_lists, book_by_rule, heard_below, lot_list, lost_book, needed_houses, told_book, told_fault
from tests.model import HUGE, SCHEMES, SMALL_SCHEMES
from tests.search import cheapest_books
from tests.wrong import NO_NUMBER_LISTS, NO_NUMBERS, WRONG_HOUSES, WRONG_SCHEMES, WRONG_SIZES

POOLS = [("pool", order) for order in ["least", "greatest", "oldest", "newest"]]


class InterfaceTest(unittest.TestCase):
    def test_parameters(self):
        check_parameters(self, is_book, ["scheme", "houses", "value"])
        check_parameters(self, book_fault, ["scheme", "houses", "numbers"])
        check_parameters(self, least_houses, ["scheme", "numbers"])
        check_parameters(self, lots_heard, ["size", "numbers"])
        check_parameters(self, weaving_for, ["scheme", "houses", "numbers"])

    def test_the_functions_are_defined_in_their_file(self):
        for name in ["is_book", "book_fault", "least_houses", "lots_heard", "weaving_for"]:
            self.assertEqual(getattr(books, name).__module__, "holesleft.books")

    def test_arguments_stay_and_lists_are_new(self):
        for numbers in [[], [0], [2, 0, 1, 3], [4, 0, 3, 1]]:
            check_new_list(self, lots_heard, (2, list(numbers)), {"size": 2, "numbers": list(numbers)})
        for scheme in SCHEMES:
            for numbers in [[], [0], [0, 1, 2]]:
                by_name = {"scheme": scheme, "houses": 3, "numbers": list(numbers)}
                check_new_list(self, weaving_for, (scheme, 3, list(numbers)), by_name)

    def test_other_answers_by_position_and_by_name(self):
        for numbers, fault, least in [([2, 0, 1, 3], None, 2), ([4, 0], 0, 3), ([0, 2, 4], 2, 3)]:
            by_name = {"scheme": ("again", 2), "houses": 2, "numbers": numbers}
            check_integer(self, book_fault, by_name, fault)
            check_integer(self, least_houses, {"scheme": ("again", 2), "numbers": numbers}, least)
            by_name = {"scheme": ("again", 2), "houses": 2, "value": numbers}
            check_integer(self, is_book, by_name, fault is None)


class SearchTest(unittest.TestCase):
    """All short lists are held against the books of all weavings."""

    def check(self, scheme, behind, length):
        lists = all_lists(behind, length)
        found = [set(cheapest_books(scheme, houses, behind, length)) for houses in (1, 2, 3)]
        for numbers in lists:
            key = tuple(numbers)
            enough = [houses for houses in (1, 2, 3) if key in found[houses - 1]]
            least = least_houses(scheme, numbers)
            self.assertEqual([houses for houses in (1, 2, 3) if least is not None and least <= houses], enough)
            for houses in (1, 2, 3):
                known = found[houses - 1]
                self.assertIs(is_book(scheme, houses, numbers), key in known, (scheme, houses, numbers))
                faults = [place for place in range(len(key)) if key[:place + 1] not in known]
                fault = faults[0] if faults else None
                self.assertEqual(book_fault(scheme, houses, numbers), fault, (scheme, houses, numbers))
                if fault is None:
                    words = check_settles(self, scheme, houses, weaving_for(scheme, houses, numbers), numbers)
                    self.assertEqual(words["fall"], 0)
                else:
                    check_error(self, NotABook, weaving_for, (scheme, houses, numbers), index=fault)

    def test_all_schemes(self):
        for scheme in SMALL_SCHEMES:
            self.check(scheme, 6, 4)

    def test_lots_of_three_and_four(self):
        for kind in ["lost", "again"]:
            self.check((kind, 3), 9, 3)
            self.check((kind, 4), 8, 3)


class LateTest(unittest.TestCase):
    def test_only_the_numbers_in_sequence(self):
        for length in [0, 1, 2, 57, 199, 200]:
            numbers = list(range(length))
            for houses in [1, 2, 20]:
                self.assertIs(is_book(("late",), houses, numbers), True)
                self.assertIsNone(book_fault(("late",), houses, numbers))
                check_settles(self, ("late",), houses, weaving_for(("late",), houses, numbers), numbers)
            self.assertEqual(least_houses(("late",), numbers), 1)
            for place in range(length):
                wrong = numbers[:place] + [numbers[place] + 1] + numbers[place + 1:]
                self.assertEqual(book_fault(("late",), 5, wrong), place)
                self.assertIs(is_book(("late",), 5, wrong), False)
                self.assertIsNone(least_houses(("late",), wrong))


class RulesTest(unittest.TestCase):
    """Long lists are held against the rules of point 9, as they stand there."""

    def check(self, scheme, houses, numbers):
        fault = told_fault(scheme, houses, numbers)
        self.assertEqual(book_fault(scheme, houses, numbers), fault, (scheme, houses))
        self.assertIs(is_book(scheme, houses, numbers), fault is None)
        self.assertEqual(least_houses(scheme, numbers), needed_houses(scheme, numbers))
        self.assertEqual(lots_heard(3, numbers), [heard_below(3, numbers, k) for k in range(len(numbers))])

    def test_books_of_again_and_their_faults(self):
        for houses in range(1, 21):
            for size in (1, 2, 7):
                numbers = book_by_rule(size, houses, 60, houses)
                for few in {1, houses - 1, houses, 20} - {0}:
                    self.check(("again", size), few, numbers)
        for seed, scheme in enumerate(POOLS):
            numbers = book_by_rule(1, 9, 60, seed)
            for houses in (1, 8, 9, 20):
                self.check(scheme, houses, numbers)

    def test_a_wrong_number_at_each_place_of_again(self):
        for size, houses in [(1, 3), (2, 4), (5, 2)]:
            numbers = book_by_rule(size, houses, 25, 3)
            for place, number in enumerate(numbers):
                for other in [number + 1, number - 1, numbers[0], number + size * houses, 10 ** 29]:
                    if other >= 0:
                        wrong = numbers[:place] + [other] + numbers[place + 1:]
                        fault = told_fault(("again", size), houses, wrong) if other < 10 ** 6 else place
                        self.assertEqual(book_fault(("again", size), houses, wrong), fault)

    def test_books_of_lost_and_their_faults(self):
        for houses in range(1, 21):
            for size in (1, 2, 5):
                numbers = lost_book(size, houses, 60, houses)
                for few in {1, houses - 1, houses, 20} - {0}:
                    self.check(("lost", size), few, numbers)

    def test_a_wrong_number_at_each_place_of_lost(self):
        for size, houses in [(1, 3), (2, 4), (5, 2)]:
            numbers = lost_book(size, houses, 25, 3)
            for place, number in enumerate(numbers):
                for other in [number + 1, number - 1, numbers[0], numbers[-1], number + 4 * size, 10 ** 29]:
                    if other >= 0:
                        self.check(("lost", size), houses, numbers[:place] + [other] + numbers[place + 1:])

    def test_lists_in_lots(self):
        for seed in range(30):
            size = seed % 4 + 1
            numbers = lot_list(size, 8 + seed, 50, seed)
            self.check(("again", size), seed % 20 + 1, numbers)
            self.check(("lost", size), seed % 20 + 1, numbers)

    def test_200_numbers(self):
        for houses in (1, 2, 7, 20):
            for scheme in [("again", 1), ("again", 3), ("pool", "oldest")]:
                size = 1 if scheme[0] == "pool" else scheme[1]
                numbers = book_by_rule(size, houses, 200, 6)
                self.assertEqual(least_houses(scheme, numbers), houses)
                self.assertIs(is_book(scheme, houses, numbers), True)
                if houses > 1:
                    self.assertIs(is_book(scheme, houses - 1, numbers), False)
                    fault = book_fault(scheme, houses - 1, numbers)
                    self.assertTrue(told_book(scheme, houses - 1, numbers[:fault]))
                    self.assertFalse(told_book(scheme, houses - 1, numbers[:fault + 1]))


class OrdersTest(unittest.TestCase):
    def test_pools_are_lots_of_one_whatever_the_order(self):
        for numbers in all_lists(5, 4):
            fault = book_fault(("again", 1), 2, numbers)
            least = least_houses(("again", 1), numbers)
            for scheme in POOLS:
                self.assertEqual(book_fault(scheme, 2, numbers), fault)
                self.assertEqual(least_houses(scheme, numbers), least)


class LengthTest(unittest.TestCase):
    def test_199_200_and_201_numbers(self):
        for scheme in SCHEMES:
            for length in (199, 200):
                numbers = list(range(length))
                self.assertIs(is_book(scheme, 1, numbers), True)
                self.assertIsNone(book_fault(scheme, 1, numbers))
                self.assertEqual(least_houses(scheme, numbers), 1)
                words = check_settles(self, scheme, 1, weaving_for(scheme, 1, numbers), numbers)
                self.assertEqual(words, {"take": length, "end": length, "fail": 0, "fall": 0})
            numbers = list(range(201))
            self.assertIs(is_book(scheme, 1, numbers), False)
            for call, arguments in [(book_fault, (scheme, 1, numbers)), (least_houses, (scheme, numbers)),
                                    (weaving_for, (scheme, 1, numbers)), (lots_heard, (1, numbers))]:
                check_error(self, InvalidNumbers, call, arguments, index=None)

    def test_the_empty_list(self):
        for scheme in SCHEMES:
            for houses in (1, 2, 20):
                self.assertIs(is_book(scheme, houses, []), True)
                self.assertIsNone(book_fault(scheme, houses, []))
                self.assertEqual(check_settles(self, scheme, houses, weaving_for(scheme, houses, []), [])["fall"], 0)
            self.assertEqual(least_houses(scheme, []), 1)
        self.assertEqual(lots_heard(1, []), [])


class LeastHousesTest(unittest.TestCase):
    def test_more_than_20_houses(self):
        for scheme in [("again", 1)] + POOLS:
            for number in [19, 20, 21, 500, 10 ** 29, 10 ** 30 - 1]:
                self.assertEqual(least_houses(scheme, [number]), number + 1)
                self.assertIs(is_book(scheme, 20, [number]), number < 20)
                self.assertEqual(book_fault(scheme, 20, [number]), None if number < 20 else 0)
        self.assertEqual(least_houses(("again", 10), [10 ** 29]), 10 ** 28 + 1)
        self.assertEqual(least_houses(("again", 1), list(range(199, -1, -1))), 200)
        self.assertEqual(least_houses(("lost", 1), list(range(199, -1, -1))), 200)
        self.assertEqual(least_houses(("lost", 1), list(range(20, -1, -1))), 21)
        self.assertEqual(book_fault(("lost", 1), 20, list(range(20, -1, -1))), 20)
        self.assertEqual(book_fault(("lost", 1), 20, list(range(19, -1, -1))), None)

    def test_lost_needs_no_house_for_lots_that_are_not_heard(self):
        self.assertEqual(least_houses(("lost", 1), [10 ** 29]), 1)
        self.assertEqual(least_houses(("lost", 1), [10 ** 29, 5, 3, 4]), 4)
        self.assertEqual(least_houses(("lost", 2), [4, 5, 0]), 2)
        self.assertEqual(least_houses(("lost", 2), [0, 4, 1, 3]), 3)

    def test_none_without_a_book(self):
        for kind in ["again", "lost"]:
            for numbers in [[0, 0], [1, 0], [4, 0, 4], [4, 1, 0]]:
                self.assertIsNone(least_houses((kind, 2), numbers))
        for numbers in [[1], [2, 4, 1], [0, 1, 3]]:
            self.assertIsNone(least_houses(("again", 2), numbers))
            self.assertIsNotNone(least_houses(("lost", 2), numbers))


class HugeTest(unittest.TestCase):
    """The greatest lots."""

    def test_books_of_huge_lots(self):
        for kind in ["again", "lost"]:
            scheme = (kind, HUGE)
            numbers = [2 * HUGE, 0, HUGE, 1, 2 * HUGE + 1, 2]
            self.assertEqual(least_houses(scheme, numbers), 3)
            self.assertIs(is_book(scheme, 3, numbers), True)
            self.assertIs(is_book(scheme, 2, numbers), False)
            self.assertEqual(book_fault(scheme, 2, numbers), 0 if kind == "again" else 2)
            self.assertEqual(lots_heard(HUGE, numbers), [2, 0, 1, 0, 1, 0])
        self.assertEqual(book_fault(("again", HUGE), 5, [0, HUGE - 1]), 1)
        self.assertIsNone(book_fault(("lost", HUGE), 1, [0, HUGE - 1, HUGE]))
        numbers = [2 * HUGE, 0, HUGE, 1, 2 * HUGE + 1, 2]
        check_settles(self, ("again", HUGE), 3, weaving_for(("again", HUGE), 3, numbers), numbers)

    def test_19_huge_lots_below(self):
        numbers = [19 * HUGE] + [lot * HUGE for lot in range(19)]
        check_settles(self, ("again", HUGE), 20, weaving_for(("again", HUGE), 20, numbers), numbers)
        check_error(self, NotABook, weaving_for, (("again", HUGE), 19, numbers), index=0)


class WeavingTest(unittest.TestCase):
    def check(self, scheme, houses, numbers):
        words = check_settles(self, scheme, houses, weaving_for(scheme, houses, numbers), numbers)
        self.assertEqual(words["fall"], 0)

    def test_again_and_pools(self):
        for houses in range(1, 21):
            for size in (1, 2, 30):
                self.check(("again", size), houses, book_by_rule(size, houses, 200, houses + size))
            self.check(POOLS[houses % 4], houses, book_by_rule(1, houses, 200, houses))

    def test_lots_that_are_never_heard(self):
        for houses in range(1, 21):
            for size in (1, 2):
                self.check(("again", size), houses, [(houses - 1) * size])
                self.check(("again", size), houses, [(houses - 1) * size + k for k in range(size)])
            self.check(("pool", "least"), houses, [houses - 1] + list(range(houses, 199 + houses)))

    def test_lost(self):
        for houses in range(1, 21):
            for size in (1, 2, 3, 10, 70, 150, 199):
                for seed in range(3):
                    numbers = lost_book(size, houses, 200, seed, 200)
                    self.assertTrue(told_book(("lost", size), houses, numbers))
                    self.check(("lost", size), houses, numbers)

    def test_lost_with_the_least_houses(self):
        for numbers in [[199], [0, 199], [198, 199, 0], [1, 5, 3], [150, 100, 50, 0], list(range(0, 200, 7))]:
            for size in (1, 2, 50, 100, 199, 200, 201, HUGE):
                least = least_houses(("lost", size), numbers)
                if least is not None:
                    self.check(("lost", size), least, numbers)
                    if least > 1:
                        self.assertFalse(is_book(("lost", size), least - 1, numbers))

    def test_numbers_of_199_and_200_for_lost(self):
        for size in (1, 2, 199, 200, 201, HUGE):
            for numbers in [[199], [0, 199], [5, 17, 199]]:
                self.check(("lost", size), 1, numbers)
            for numbers in [[200], [0, 200], [5, 17, 200], [10 ** 29], [200, 201]]:
                self.assertIs(is_book(("lost", size), 1, numbers), True)
                check_error(self, TooLong, weaving_for, (("lost", size), 1, numbers), limit=200)
        check_error(self, TooLong, weaving_for, (("lost", 1), 2, [200, 0]), limit=200)

    def test_no_limit_for_the_other_schemes(self):
        numbers = book_by_rule(1, 20, 200, 1)
        self.assertGreaterEqual(max(numbers), 200)
        for scheme in [("again", 1)] + POOLS:
            self.check(scheme, 20, numbers)
        self.check(("again", 300), 2, [300, 0])

    def test_a_fault_comes_ahead_of_the_limit(self):
        check_error(self, NotABook, weaving_for, (("lost", 1), 1, [200, 0]), index=1)
        check_error(self, NotABook, weaving_for, (("lost", 1), 2, [300, 200, 0]), index=2)
        check_error(self, NotABook, weaving_for, (("lost", 2), 1, [200, 200]), index=1)
        check_error(self, NotABook, weaving_for, (("late",), 1, [200]), index=0)


class ValuesTest(unittest.TestCase):
    """Any value is a book or none."""

    def test_other_values(self):
        for scheme in SCHEMES:
            for value in NO_NUMBER_LISTS:
                self.assertIs(is_book(scheme, 2, value), False, repr(value))
            for item in NO_NUMBERS:
                self.assertIs(is_book(scheme, 2, [item]), False, repr(item))
                self.assertIs(is_book(scheme, 2, [0, item]), False, repr(item))
                self.assertIs(is_book(scheme, 2, [0, 1, item, 3]), False, repr(item))

    def test_true_is_not_1(self):
        self.assertIs(is_book(("late",), 1, [0, True]), False)
        self.assertIs(is_book(("late",), 1, [False]), False)

    def test_integers_with_more_digits(self):
        self.assertIs(is_book(("lost", 1), 1, [10 ** 60]), True)
        self.assertIs(is_book(("again", 1), 20, [10 ** 60]), False)
        self.assertEqual(book_fault(("again", 1), 20, [0, 10 ** 60]), 1)


class ErrorsTest(unittest.TestCase):
    def calls(self):
        return [
            (is_book, (("again", 2), 2, [0])),
            (book_fault, (("again", 2), 2, [0])),
            (weaving_for, (("again", 2), 2, [0])),
        ]

    def test_schemes(self):
        for scheme in WRONG_SCHEMES:
            for call, rights in self.calls():
                check_error(self, InvalidScheme, call, (scheme,) + rights[1:])
            check_error(self, InvalidScheme, least_houses, (scheme, [0]))

    def test_houses(self):
        for houses in WRONG_HOUSES:
            for scheme in [("late",), ("lost", 1), ("again", 2), ("pool", "newest")]:
                for call, _ in self.calls():
                    check_error(self, InvalidHouses, call, (scheme, houses, [0]))

    def test_sizes(self):
        for size in WRONG_SIZES:
            check_error(self, InvalidSize, lots_heard, (size, [0]))
        self.assertEqual(lots_heard(1, [1, 0]), [1, 0])
        self.assertEqual(lots_heard(HUGE, [HUGE, 0]), [1, 0])

    def test_numbers(self):
        calls = [(book_fault, (("late",), 2)), (weaving_for, (("lost", 2), 2)), (least_houses, (("again", 2),)),
                 (lots_heard, (2,)), (weaving_for, (("pool", "least"), 20))]
        for call, ahead in calls:
            for value in NO_NUMBER_LISTS:
                check_error(self, InvalidNumbers, call, ahead + (value,), index=None)
            for item in NO_NUMBERS:
                check_error(self, InvalidNumbers, call, ahead + ([item],), index=0)
                check_error(self, InvalidNumbers, call, ahead + ([0, 1, item, item],), index=2)
                check_error(self, InvalidNumbers, call, ahead + ([5, 5] * 99 + [7, item],), index=199)

    def test_the_first_argument_that_is_wrong_tells(self):
        wrongs = [(("lost", 0), InvalidScheme, {}), (21, InvalidHouses, {}), ((0,), InvalidNumbers, {"index": None})]
        for call, rights in self.calls()[1:]:
            check_first_wrong(self, call, rights, wrongs)
        check_first_wrong(self, least_houses, (("late",), []), [wrongs[0], wrongs[2]])
        check_first_wrong(self, lots_heard, (1, [3]), [(0, InvalidSize, {}), ([3, -1], InvalidNumbers, {"index": 1})])
        check_error(self, InvalidScheme, is_book, (None, 0, None))
        check_error(self, InvalidHouses, is_book, (("late",), 0, None))
        check_error(self, InvalidNumbers, weaving_for, (("lost", 1), 1, [300, 0, None]), index=2)

    def test_an_error_leaves_nothing_behind(self):
        before = [call(*rights) for call, rights in self.calls()]
        for call, rights in self.calls()[1:]:
            check_error(self, InvalidNumbers, call, rights[:2] + ([0, None],), index=1)
        check_error(self, NotABook, weaving_for, (("again", 2), 2, [0, 5]), index=1)
        self.assertEqual([call(*rights) for call, rights in self.calls()], before)


if __name__ == "__main__":
    unittest.main()
