"""DOC.md [2], [3], [5], [6] and [12]: holesleft.schemes."""

import unittest

from holesleft import schemes
from holesleft.errors import InvalidHouses, InvalidNumber, InvalidWeaving
from holesleft.schemes import can_follow, deeds_of, is_scheme, is_weaving, without_house
from tests.calls import check_error, check_new_list, check_parameters
from tests.model import HUGE, SCHEMES, all_weavings, followers, mixed_weaving
from tests.wrong import NO_EVENTS, NO_LISTS, WRONG_HOUSES, WRONG_SCHEMES

W = [("take", 0), ("take", 1), ("end", 1), ("fail", 0), ("take", 0), ("end", 0)]
TURNS = [("take", 0), ("end", 0)]

# Weavings of two houses, each with an event that cannot follow those before it.
CANNOT_FOLLOW = [
    ([("end", 0)], 0),
    ([("fail", 1)], 0),
    ([("take", 0), ("take", 0)], 1),
    ([("take", 0), ("end", 1)], 1),
    ([("take", 0), ("fail", 1)], 1),
    ([("take", 0), ("end", 0), ("end", 0)], 2),
    ([("take", 0), ("end", 0), ("fail", 0)], 2),
    ([("take", 1), ("fail", 1), ("fail", 1)], 2),
    ([("take", 1), ("fail", 1), ("end", 1)], 2),
    ([("take", 1), ("fall", 1), ("end", 1)], 2),
    ([("take", 1), ("fall", 1), ("fail", 1)], 2),
    ([("fall", 0), ("end", 0), ("take", 0)], 1),
    ([("take", 0), ("take", 1), ("fall", 0), ("take", 1)], 3),
    ([("take", 0), ("take", 1), ("end", 0), ("take", 0), ("take", 0), None], 4),
]


def weaving_calls():
    """The functions of a weaving, each with what stands behind the weaving."""
    return [(can_follow, ()), (deeds_of, ()), (without_house, (0,))]


class InterfaceTest(unittest.TestCase):
    def test_parameters(self):
        check_parameters(self, is_scheme, ["value"])
        check_parameters(self, is_weaving, ["houses", "value"])
        check_parameters(self, can_follow, ["houses", "weaving"])
        check_parameters(self, deeds_of, ["houses", "weaving"])
        check_parameters(self, without_house, ["houses", "weaving", "house"])

    def test_the_functions_are_defined_in_their_file(self):
        for name in ["is_scheme", "is_weaving", "can_follow", "deeds_of", "without_house"]:
            self.assertEqual(getattr(schemes, name).__module__, "holesleft.schemes")

    def test_arguments_stay_and_lists_are_new(self):
        check_new_list(self, can_follow, (2, list(W)), {"houses": 2, "weaving": list(W)})
        check_new_list(self, deeds_of, (2, list(W)), {"houses": 2, "weaving": list(W)})
        for house in range(3):
            by_name = {"houses": 3, "weaving": list(W), "house": house}
            check_new_list(self, without_house, (3, list(W), house), by_name)

    def test_tests_of_values_can_be_passed_by_name(self):
        self.assertIs(is_scheme(value=("late",)), True)
        self.assertIs(is_weaving(value=W, houses=2), True)


class SchemesTest(unittest.TestCase):
    def test_schemes(self):
        for scheme in SCHEMES:
            self.assertIs(is_scheme(scheme), True, scheme)

    def test_sizes_from_1_to_the_greatest(self):
        for kind in ["lost", "again"]:
            for size in [1, 2, 3, 200, 10 ** 29, HUGE - 1, HUGE]:
                self.assertIs(is_scheme((kind, size)), True, size)
            for size in [0, -1, HUGE + 1, HUGE + 2, 10 ** 300]:
                self.assertIs(is_scheme((kind, size)), False, size)

    def test_no_schemes(self):
        for value in WRONG_SCHEMES:
            self.assertIs(is_scheme(value), False, repr(value))


class WeavingsTest(unittest.TestCase):
    def test_weavings(self):
        for houses in range(1, 21):
            self.assertIs(is_weaving(houses, []), True)
            self.assertIs(is_weaving(houses, [("fall", houses - 1), ("take", houses - 1)]), True)
            self.assertIs(is_weaving(houses, [("take", houses)]), False)
            self.assertIs(is_weaving(houses, mixed_weaving(houses, 90, houses)), True)
        self.assertIs(is_weaving(2, W), True)
        self.assertIs(is_weaving(1, W), False)

    def test_all_short_lists_of_events(self):
        words = ["take", "end", "fail", "fall"]
        known = all_weavings(2, 3)
        events = [(word, house) for word in words for house in range(2)]
        lists = [[]]
        for _ in range(3):
            lists = [[]] + [rows + [event] for rows in lists for event in events]
        self.assertEqual(len(lists), 1 + 8 + 64 + 512)
        for rows in lists:
            self.assertIs(is_weaving(2, rows), rows in known, rows)

    def test_at_most_800_events(self):
        self.assertIs(is_weaving(1, TURNS * 400), True)
        self.assertIs(is_weaving(1, TURNS * 400 + [("take", 0)]), False)
        self.assertIs(is_weaving(3, mixed_weaving(3, 800, 1)), True)
        self.assertIs(is_weaving(3, mixed_weaving(3, 801, 1)), False)

    def test_other_values(self):
        for value in NO_LISTS:
            self.assertIs(is_weaving(2, value), False, repr(value))
        for item in NO_EVENTS:
            self.assertIs(is_weaving(2, [item]), False, repr(item))
            self.assertIs(is_weaving(2, W + [item]), False, repr(item))
        for weaving, _ in CANNOT_FOLLOW:
            self.assertIs(is_weaving(2, weaving), False, weaving)

    def test_houses(self):
        for houses in WRONG_HOUSES:
            for value in [[], W, None, [None]]:
                check_error(self, InvalidHouses, is_weaving, (houses, value))


class FollowTest(unittest.TestCase):
    def test_house_by_house(self):
        self.assertEqual(can_follow(1, []), [("take", 0), ("fall", 0)])
        self.assertEqual(can_follow(1, [("take", 0)]), [("end", 0), ("fail", 0), ("fall", 0)])
        for word in ["end", "fail", "fall"]:
            self.assertEqual(can_follow(1, [("take", 0), (word, 0)]), [("take", 0), ("fall", 0)])

    def test_all_houses(self):
        for houses in range(1, 21):
            self.assertEqual(can_follow(houses, []), [(w, h) for h in range(houses) for w in ["take", "fall"]])
            takes = [("take", house) for house in range(houses)]
            expected = [(w, h) for h in range(houses) for w in ["end", "fail", "fall"]]
            self.assertEqual(can_follow(houses, takes), expected)

    def test_the_events_are_just_those_that_make_a_weaving(self):
        for weaving in all_weavings(2, 4):
            events = can_follow(2, weaving)
            self.assertEqual(events, followers(2, weaving))
            for event in events:
                self.assertTrue(is_weaving(2, weaving + [event]))

    def test_behind_800_events(self):
        self.assertEqual(can_follow(1, TURNS * 400), [("take", 0), ("fall", 0)])
        weaving = mixed_weaving(20, 800, 4)
        self.assertEqual(can_follow(20, weaving), followers(20, weaving))

    def test_errors(self):
        check_error(self, InvalidWeaving, can_follow, (1, TURNS * 400 + [("take", 0)]), index=None)


class DeedsTest(unittest.TestCase):
    def test_all_outcomes(self):
        self.assertEqual(deeds_of(1, []), [])
        weaving = [("take", 1), ("fall", 0), ("take", 0), ("end", 1), ("take", 1), ("fail", 1), ("fall", 1),
                   ("fall", 0), ("take", 1), ("fall", 1), ("fall", 1), ("take", 0)]
        expected = [(1, 0, 3, "end"), (0, 2, 7, "fall"), (1, 4, 5, "fail"), (1, 8, 9, "fall"), (0, 11, None, "open")]
        self.assertEqual(deeds_of(2, weaving), expected)

    def test_falls_alone_are_no_deeds(self):
        self.assertEqual(deeds_of(20, [("fall", house) for house in range(20)] * 40), [])

    def test_in_the_sequence_of_their_begins(self):
        weaving = [("take", 2), ("take", 0), ("take", 1), ("end", 0), ("end", 2), ("take", 0)]
        expected = [(2, 0, 4, "end"), (0, 1, 3, "end"), (1, 2, None, "open"), (0, 5, None, "open")]
        self.assertEqual(deeds_of(3, weaving), expected)

    def test_each_deed_by_its_definition(self):
        for seed in range(20):
            houses = seed + 1
            weaving = mixed_weaving(houses, 40 * houses, seed)
            expected = []
            for begin, (word, house) in enumerate(weaving):
                if word != "take":
                    continue
                later = [k for k in range(begin + 1, len(weaving)) if weaving[k][1] == house]
                if later:
                    expected.append((house, begin, later[0], weaving[later[0]][0]))
                else:
                    expected.append((house, begin, None, "open"))
            self.assertEqual(deeds_of(houses, weaving), expected)

    def test_800_events(self):
        self.assertEqual(deeds_of(1, TURNS * 400), [(0, 2 * k, 2 * k + 1, "end") for k in range(400)])


class WithoutHouseTest(unittest.TestCase):
    def test_the_others_keep_their_numbers(self):
        self.assertEqual(without_house(2, W, 0), [("take", 1), ("end", 1)])
        self.assertEqual(without_house(2, W, 1), [("take", 0), ("fail", 0), ("take", 0), ("end", 0)])
        self.assertEqual(without_house(3, W, 2), W)
        self.assertEqual(without_house(1, [], 0), [])

    def test_it_is_a_weaving(self):
        for seed in range(20):
            weaving = mixed_weaving(seed + 1, 800, seed)
            for house in range(seed + 1):
                rest = without_house(seed + 1, weaving, house)
                self.assertTrue(is_weaving(seed + 1, rest))
                self.assertEqual(rest, [event for event in weaving if event[1] != house])

    def test_wrong_houses(self):
        for house in [-1, 2, 3, 20, 10 ** 40, -10 ** 40, True, False, None, "0", 0.0, [0], (0,), object()]:
            check_error(self, InvalidNumber, without_house, (2, W, house))
        check_error(self, InvalidNumber, without_house, (20, [], 20))
        self.assertEqual(without_house(20, [("take", 19)], 19), [])


class ErrorsTest(unittest.TestCase):
    def test_houses(self):
        for houses in WRONG_HOUSES:
            for call, more in weaving_calls():
                check_error(self, InvalidHouses, call, (houses, W) + more)

    def test_no_list_or_too_long(self):
        for call, more in weaving_calls():
            for value in NO_LISTS + [tuple(W), mixed_weaving(2, 801, 2), [None] * 801]:
                check_error(self, InvalidWeaving, call, (2, value) + more, index=None)
            call(2, mixed_weaving(2, 800, 2), *more)
            check_error(self, InvalidWeaving, call, (2, [None] * 800) + more, index=0)
            check_error(self, InvalidWeaving, call, (1, TURNS * 399 + [("take", 0)] * 2) + more, index=799)

    def test_items_that_are_no_events(self):
        for call, more in weaving_calls():
            for item in NO_EVENTS:
                check_error(self, InvalidWeaving, call, (2, [item]) + more, index=0)
                check_error(self, InvalidWeaving, call, (2, W + [item]) + more, index=6)
                check_error(self, InvalidWeaving, call, (2, W[:3] + [item, item] + W[3:]) + more, index=3)

    def test_events_that_cannot_follow(self):
        for call, more in weaving_calls():
            for weaving, index in CANNOT_FOLLOW:
                check_error(self, InvalidWeaving, call, (2, weaving) + more, index=index)

    def test_houses_beyond_the_number_of_houses(self):
        for call, more in weaving_calls():
            check_error(self, InvalidWeaving, call, (1, W) + more, index=1)
            check_error(self, InvalidWeaving, call, (20, [("fall", 19), ("fall", 20)]) + more, index=1)

    def test_the_first_argument_that_is_wrong_tells(self):
        for call, more in weaving_calls():
            check_error(self, InvalidHouses, call, (21, None) + more)
            check_error(self, InvalidHouses, call, (0, W[2:]) + more)
        check_error(self, InvalidHouses, without_house, (True, None, None))
        check_error(self, InvalidWeaving, without_house, (2, tuple(W), 2), index=None)
        check_error(self, InvalidWeaving, without_house, (2, W[2:], True), index=0)


if __name__ == "__main__":
    unittest.main()
