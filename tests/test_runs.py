"""DOC.md [2], [3], [5] to [8], [13] and [14]: holesleft.runs."""

import unittest

from holesleft import runs
from holesleft.errors import InvalidHouses, InvalidScheme, InvalidWeaving
from holesleft.runs import book_of, count_holes, frontier_of, holes_along, holes_of, lost_of, numbers_along
from holesleft.runs import open_numbers_of, pending_of, pool_of, rests_of
from tests.calls import check_error, check_new_list, check_parameters
from tests.model import HUGE, SCHEMES, SMALL_SCHEMES, all_weavings, expected, mixed_weaving
from tests.wrong import NO_EVENTS, NO_LISTS, WRONG_HOUSES, WRONG_SCHEMES

W = [("take", 0), ("take", 1), ("end", 1), ("fail", 0), ("take", 0), ("end", 0)]
TURNS = [("take", 0), ("end", 0)]
BAD_TURNS = [("take", 0), ("fail", 0)]
LISTS = [numbers_along, book_of, open_numbers_of, rests_of, pool_of, lost_of, pending_of, holes_of, holes_along]
INTEGERS = [frontier_of, count_holes]
ALL = LISTS + INTEGERS
POOLS = [("pool", order) for order in ["least", "greatest", "oldest", "newest"]]


class InterfaceTest(unittest.TestCase):
    def test_parameters(self):
        for call in ALL:
            check_parameters(self, call, ["scheme", "houses", "weaving"])
            self.assertIs(getattr(runs, call.__name__), call)
            self.assertEqual(call.__module__, "holesleft.runs")

    def test_arguments_stay_and_lists_are_new(self):
        for scheme in SCHEMES:
            for weaving in [[], list(W), mixed_weaving(3, 30, 5)]:
                for call in LISTS:
                    by_name = {"scheme": scheme, "houses": 3, "weaving": list(weaving)}
                    check_new_list(self, call, (scheme, 3, weaving), by_name)

    def test_integers_by_name(self):
        for call in INTEGERS:
            for scheme in SCHEMES:
                weaving = list(W)
                found = call(weaving=weaving, houses=2, scheme=scheme)
                self.assertIs(found.__class__, int)
                self.assertEqual(found, call(scheme, 2, weaving))
                self.assertEqual(weaving, W)


class ModelTest(unittest.TestCase):
    def check(self, scheme, houses, weaving):
        for name, answer in expected(scheme, houses, weaving).items():
            found = getattr(runs, name)(scheme, houses, weaving)
            self.assertEqual(found, answer, (name, scheme, houses, weaving))

    def test_all_short_weavings(self):
        for houses, length in [(1, 7), (2, 4), (3, 3)]:
            for weaving in all_weavings(houses, length):
                for scheme in SMALL_SCHEMES:
                    self.check(scheme, houses, weaving)

    def test_one_to_20_houses(self):
        for houses in range(1, 21):
            for scheme in SMALL_SCHEMES:
                self.check(scheme, houses, mixed_weaving(houses, 60 + 4 * houses, houses))

    def test_without_falls_and_without_fails(self):
        for words in [("take", "end"), ("take", "end", "fail"), ("take", "end", "fall"), ("take", "fail", "fall")]:
            for scheme in SMALL_SCHEMES:
                self.check(scheme, 5, mixed_weaving(5, 120, 7, words))

    def test_800_events(self):
        for seed, scheme in enumerate(SMALL_SCHEMES):
            self.check(scheme, 4, mixed_weaving(4, 800, seed))
            self.check(scheme, 20, mixed_weaving(20, 800, seed))

    def test_the_empty_weaving(self):
        for scheme in SCHEMES:
            for houses in [1, 2, 20]:
                for call in LISTS:
                    empty = [None] * houses if call in (open_numbers_of, rests_of) else []
                    self.assertEqual(call(scheme, houses, []), empty, call)
                for call in INTEGERS:
                    self.assertEqual(call(scheme, houses, []), 0)


class LateTest(unittest.TestCase):
    def test_only_ends_have_numbers(self):
        weaving = W + [("take", 1), ("fall", 1), ("fall", 0), ("take", 0), ("take", 1), ("end", 1)]
        self.assertEqual(
            numbers_along(("late",), 2, weaving),
            [None, None, 0, None, None, 1, None, None, None, None, None, 2],
        )
        self.assertEqual(open_numbers_of(("late",), 2, weaving), [None, None])
        self.assertEqual(rests_of(("late",), 2, weaving), [None, None])
        self.assertEqual(pool_of(("late",), 2, weaving), [])
        self.assertEqual(frontier_of(("late",), 2, weaving), 3)

    def test_nothing_is_lost_or_pending_and_no_hole_comes(self):
        weaving = mixed_weaving(20, 800, 3)
        for call in [lost_of, pending_of, holes_of]:
            self.assertEqual(call(("late",), 20, weaving), [])
        self.assertEqual(holes_along(("late",), 20, weaving), [0] * 800)
        book = book_of(("late",), 20, weaving)
        self.assertEqual(book, list(range(len(book))))


class LostTest(unittest.TestCase):
    def test_a_failed_number_is_lost(self):
        weaving = BAD_TURNS + TURNS + BAD_TURNS + TURNS
        self.assertEqual(numbers_along(("lost", 3), 1, weaving), [0, 0, 1, 1, 2, 2, 3, 3])
        self.assertEqual(lost_of(("lost", 3), 1, weaving), [(0, 0), (2, 2)])
        self.assertEqual(holes_along(("lost", 3), 1, weaving), [0, 0, 0, 1, 1, 1, 1, 2])

    def test_a_lot_is_used_up_by_an_end(self):
        self.assertEqual(rests_of(("lost", 2), 1, TURNS), [(1, 1)])
        self.assertEqual(rests_of(("lost", 2), 1, TURNS + [("take", 0)]), [(1, 1)])
        self.assertEqual(rests_of(("lost", 2), 1, TURNS * 2), [None])
        self.assertEqual(frontier_of(("lost", 2), 1, TURNS * 2), 2)
        self.assertEqual(lost_of(("lost", 2), 1, TURNS * 2 + [("fall", 0)]), [])
        self.assertEqual(numbers_along(("lost", 2), 2, [("take", 1)] + TURNS * 3), [0, 2, 2, 3, 3, 4, 4])

    def test_a_lot_is_used_up_by_a_fail(self):
        self.assertEqual(rests_of(("lost", 2), 1, TURNS + BAD_TURNS), [None])
        self.assertEqual(frontier_of(("lost", 2), 1, TURNS + BAD_TURNS), 2)
        self.assertEqual(lost_of(("lost", 2), 1, TURNS + BAD_TURNS), [(1, 1)])
        self.assertEqual(holes_of(("lost", 2), 1, TURNS + BAD_TURNS), [])
        self.assertEqual(rests_of(("lost", 2), 1, TURNS + BAD_TURNS + [("take", 0)]), [(2, 3)])
        self.assertEqual(book_of(("lost", 1), 1, (BAD_TURNS + TURNS) * 3), [1, 3, 5])

    def test_a_fall_loses_the_open_number_and_the_rest(self):
        weaving = TURNS + [("take", 0), ("fall", 0)]
        self.assertEqual(numbers_along(("lost", 4), 1, weaving), [0, 0, 1, 1])
        self.assertEqual(lost_of(("lost", 4), 1, weaving), [(1, 3)])
        self.assertEqual(rests_of(("lost", 4), 1, weaving), [None])
        self.assertEqual(pending_of(("lost", 4), 1, weaving), [])
        self.assertEqual(numbers_along(("lost", 4), 1, weaving + [("take", 0)])[4], 4)

    def test_lost_stretches_that_touch_are_one(self):
        weaving = BAD_TURNS + BAD_TURNS + [("take", 1), ("fall", 1), ("fall", 0)]
        self.assertEqual(lost_of(("lost", 3), 2, weaving), [(0, 5)])
        self.assertEqual(lost_of(("lost", 3), 2, weaving[:4]), [(0, 1)])
        self.assertEqual(lost_of(("lost", 3), 2, weaving[:6]), [(0, 1), (3, 5)])


class AgainTest(unittest.TestCase):
    def test_a_failed_number_is_dealt_again(self):
        weaving = BAD_TURNS * 3 + TURNS + [("take", 0)]
        self.assertEqual(numbers_along(("again", 2), 1, weaving), [0, 0, 0, 0, 0, 0, 0, 0, 1])
        self.assertEqual(rests_of(("again", 2), 1, BAD_TURNS), [(0, 1)])
        self.assertEqual(pending_of(("again", 2), 1, BAD_TURNS), [(0, 1)])
        self.assertEqual(lost_of(("again", 2), 1, BAD_TURNS), [])

    def test_it_is_the_next_number_of_this_house(self):
        weaving = [("take", 0), ("take", 1), ("fail", 0), ("take", 2), ("end", 1), ("take", 1), ("take", 0)]
        self.assertEqual(numbers_along(("again", 2), 3, weaving), [0, 2, 0, 4, 2, 3, 0])

    def test_the_last_number_of_a_lot_that_fails(self):
        weaving = TURNS + BAD_TURNS
        self.assertEqual(rests_of(("again", 2), 1, weaving), [(1, 1)])
        self.assertEqual(numbers_along(("again", 2), 1, weaving + TURNS), [0, 0, 1, 1, 1, 1])
        self.assertEqual(rests_of(("again", 2), 1, weaving + TURNS), [None])
        self.assertEqual(numbers_along(("again", 1), 1, BAD_TURNS * 2 + TURNS * 2), [0, 0, 0, 0, 0, 0, 1, 1])

    def test_a_fall_loses_also_the_number_that_is_to_be_dealt_again(self):
        weaving = TURNS + BAD_TURNS + [("fall", 0)]
        self.assertEqual(numbers_along(("again", 3), 1, weaving), [0, 0, 1, 1, None])
        self.assertEqual(lost_of(("again", 3), 1, weaving), [(1, 2)])
        self.assertEqual(pending_of(("again", 3), 1, weaving), [])
        self.assertEqual(numbers_along(("again", 3), 1, weaving + [("take", 0)])[5], 3)

    def test_a_fall_with_an_open_deed(self):
        weaving = TURNS + [("take", 0), ("take", 1), ("fall", 0), ("end", 1)]
        self.assertEqual(numbers_along(("again", 3), 2, weaving), [0, 0, 1, 3, 1, 3])
        self.assertEqual(lost_of(("again", 3), 2, weaving), [(1, 2)])
        self.assertEqual(open_numbers_of(("again", 3), 2, weaving[:4]), [1, 3])
        self.assertEqual(open_numbers_of(("again", 3), 2, weaving), [None, None])
        self.assertEqual(holes_along(("again", 3), 2, weaving), [0, 0, 0, 0, 0, 2])

    def test_pending_stretches_that_touch_are_one(self):
        weaving = [("take", 1), ("take", 0), ("take", 2)]
        self.assertEqual(rests_of(("again", 2), 3, weaving), [(2, 3), (0, 1), (4, 5)])
        self.assertEqual(pending_of(("again", 2), 3, weaving), [(0, 5)])
        self.assertEqual(pending_of(("again", 2), 3, weaving + [("end", 0)]), [(0, 1), (3, 5)])

    def test_holes_that_are_lost_and_pending_are_one_stretch(self):
        weaving = [("take", 0), ("take", 1), ("fall", 0), ("take", 2), ("end", 2)]
        self.assertEqual(lost_of(("again", 2), 3, weaving), [(0, 1)])
        self.assertEqual(pending_of(("again", 2), 3, weaving), [(2, 3), (5, 5)])
        self.assertEqual(holes_of(("again", 2), 3, weaving), [(0, 3)])
        self.assertEqual(count_holes(("again", 2), 3, weaving), 4)


class PoolTest(unittest.TestCase):
    def test_the_sequence_of_each_order(self):
        weaving = [("take", house) for house in range(4)] + [("fail", house) for house in [2, 0, 3, 1]]
        pools = [[0, 1, 2, 3], [3, 2, 1, 0], [2, 0, 3, 1], [1, 3, 0, 2]]
        for scheme, pool in zip(POOLS, pools):
            self.assertEqual(pool_of(scheme, 4, weaving), pool)
            takes = [("take", house) for house in range(4)]
            self.assertEqual(numbers_along(scheme, 4, weaving + takes)[8:], pool)
            self.assertEqual(pending_of(scheme, 4, weaving), [(0, 3)])
            self.assertEqual(rests_of(scheme, 4, weaving), [None] * 4)

    def test_a_number_that_comes_back_is_the_newest(self):
        weaving = [("take", 0), ("take", 1), ("fail", 0), ("fail", 1), ("take", 0), ("fail", 0)]
        pools = [[0, 1], [1, 0], [1, 0], [1, 0]]
        for scheme, pool in zip(POOLS, pools):
            self.assertEqual(pool_of(scheme, 2, weaving), pool)

    def test_a_fall_with_an_open_deed_brings_its_number_into_the_pool(self):
        weaving = [("take", 0), ("take", 1), ("fall", 0), ("end", 1), ("take", 1)]
        for scheme in POOLS:
            self.assertEqual(numbers_along(scheme, 2, weaving), [0, 1, 0, 1, 0])
            self.assertEqual(pool_of(scheme, 2, weaving[:4]), [0])
            self.assertEqual(pool_of(scheme, 2, weaving), [])
            self.assertEqual(holes_along(scheme, 2, weaving), [0, 0, 0, 1, 1])
            self.assertEqual(lost_of(scheme, 2, weaving), [])
            self.assertEqual(rests_of(scheme, 2, weaving), [None, (0, 0)])
            self.assertEqual(open_numbers_of(scheme, 2, weaving), [None, 0])
            self.assertEqual(frontier_of(scheme, 2, weaving), 2)


class FallTest(unittest.TestCase):
    def test_a_fall_without_a_deed_and_without_a_lot_changes_nothing(self):
        for scheme in SCHEMES:
            for weaving in [[], [("take", 1)], [("take", 1), ("end", 1)], [("take", 0), ("fall", 0)]]:
                longer = weaving + [("fall", 0)]
                for call in [open_numbers_of, rests_of, pool_of, book_of, lost_of, pending_of, holes_of] + INTEGERS:
                    self.assertEqual(call(scheme, 2, longer), call(scheme, 2, weaving))
                self.assertEqual(numbers_along(scheme, 2, longer), numbers_along(scheme, 2, weaving) + [None])
                later = numbers_along(scheme, 2, longer + [("take", 0)])
                self.assertEqual(later[-1], numbers_along(scheme, 2, weaving + [("take", 0)])[-1])

    def test_800_falls(self):
        for scheme in SCHEMES:
            weaving = [("fall", house) for house in range(20)] * 40
            self.assertEqual(numbers_along(scheme, 20, weaving), [None] * 800)
            self.assertEqual(frontier_of(scheme, 20, weaving), 0)


class HugeLotsTest(unittest.TestCase):
    def test_the_greatest_size(self):
        self.assertEqual(numbers_along(("lost", HUGE), 2, W), [0, HUGE, HUGE, 0, 1, 1])
        self.assertEqual(numbers_along(("again", HUGE), 2, W), [0, HUGE, HUGE, 0, 0, 0])
        self.assertEqual(rests_of(("again", HUGE), 2, W), [(1, HUGE - 1), (HUGE + 1, 2 * HUGE - 1)])
        self.assertEqual(pending_of(("again", HUGE), 2, W), [(1, HUGE - 1), (HUGE + 1, 2 * HUGE - 1)])
        self.assertEqual(holes_of(("lost", HUGE), 2, W), [(0, 0), (2, HUGE - 1)])
        self.assertEqual(count_holes(("lost", HUGE), 2, W), HUGE - 1)
        self.assertEqual(frontier_of(("lost", HUGE), 2, W), 2 * HUGE)

    def test_many_falls(self):
        weaving = [("take", 0), ("fall", 0)] * 399 + [("take", 1), ("end", 1)]
        for kind in ["lost", "again"]:
            scheme = (kind, HUGE)
            self.assertEqual(lost_of(scheme, 2, weaving), [(0, 399 * HUGE - 1)])
            self.assertEqual(holes_of(scheme, 2, weaving), [(0, 399 * HUGE - 1)])
            self.assertEqual(holes_along(scheme, 2, weaving), [0] * 799 + [399 * HUGE])
            self.assertEqual(book_of(scheme, 2, weaving), [399 * HUGE])
            self.assertEqual(frontier_of(scheme, 2, weaving), 400 * HUGE)

    def test_many_lots_touch(self):
        weaving = [("take", house) for house in range(20)]
        for kind in ["lost", "again"]:
            self.assertEqual(pending_of((kind, HUGE), 20, weaving), [(0, 20 * HUGE - 1)])
            self.assertEqual(open_numbers_of((kind, HUGE), 20, weaving), [HUGE * house for house in range(20)])


class PlacesTest(unittest.TestCase):
    """Every number below the frontier is settled, lost or pending, just one of these."""

    def test_parts_of_the_numbers(self):
        for seed, scheme in enumerate(SCHEMES):
            weaving = mixed_weaving(6, 200, seed)
            book = book_of(scheme, 6, weaving)
            parts = [(number, number) for number in book]
            parts += lost_of(scheme, 6, weaving) + pending_of(scheme, 6, weaving)
            start = 0
            for first, last in sorted(parts):
                self.assertEqual(first, start)
                self.assertLessEqual(first, last)
                start = last + 1
            self.assertEqual(start, frontier_of(scheme, 6, weaving))
            counted = sum(last - first + 1 for first, last in holes_of(scheme, 6, weaving))
            self.assertEqual(counted, count_holes(scheme, 6, weaving))
            self.assertEqual(counted, holes_along(scheme, 6, weaving)[-1])


class ErrorsTest(unittest.TestCase):
    def test_schemes(self):
        for scheme in WRONG_SCHEMES:
            for call in ALL:
                check_error(self, InvalidScheme, call, (scheme, 2, W))

    def test_houses(self):
        for houses in WRONG_HOUSES:
            for call in ALL:
                check_error(self, InvalidHouses, call, (("late",), houses, []))
                check_error(self, InvalidHouses, call, (("again", 2), houses, W))

    def test_weavings(self):
        for call in ALL:
            for value in NO_LISTS + [tuple(W), mixed_weaving(2, 801, 2)]:
                check_error(self, InvalidWeaving, call, (("lost", 2), 2, value), index=None)
            for item in NO_EVENTS:
                check_error(self, InvalidWeaving, call, (("late",), 2, [item]), index=0)
                check_error(self, InvalidWeaving, call, (("again", 2), 2, W + [item]), index=6)
            check_error(self, InvalidWeaving, call, (("pool", "least"), 1, W), index=1)
            check_error(self, InvalidWeaving, call, (("pool", "least"), 2, W[:2] + W[3:5] + W[4:]), index=4)
            check_error(self, InvalidWeaving, call, (("late",), 2, W[2:]), index=0)

    def test_the_first_argument_that_is_wrong_tells(self):
        for call in ALL:
            check_error(self, InvalidScheme, call, (("lost", 0), 21, None))
            check_error(self, InvalidScheme, call, (["late"], 2, tuple(W)))
            check_error(self, InvalidScheme, call, (("again", True), True, W))
            check_error(self, InvalidHouses, call, (("again", 1), 0, None))
            check_error(self, InvalidHouses, call, (("late",), True, W[2:]))

    def test_right_arguments_raise_nothing(self):
        for call in ALL:
            for scheme in SCHEMES:
                for houses in [1, 20]:
                    call(scheme, houses, mixed_weaving(houses, 800, 9))

    def test_a_wrong_call_leaves_nothing_behind(self):
        before = [call(("again", 2), 2, W) for call in ALL]
        for call in ALL:
            check_error(self, InvalidWeaving, call, (("again", 2), 2, W + [("end", 0)]), index=6)
        self.assertEqual([call(("again", 2), 2, W) for call in ALL], before)


if __name__ == "__main__":
    unittest.main()
