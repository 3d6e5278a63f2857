"""DOC.md [2], [3], [23] and [24]: holesleft.readers."""

import random
import unittest

from holesleft import readers
from holesleft.errors import InvalidHouses, InvalidLooks, InvalidNumber, InvalidScheme, InvalidWeaving
from holesleft.readers import late_weaving, marks_along, missed_by, seen_below_marks
from holesleft.runs import book_of, frontier_of, numbers_along, pending_of
from holesleft.schemes import is_weaving
from tests.calls import check_error, check_first_wrong, check_new_list, check_parameters, count_words
from tests.model import HUGE, HUGE_SCHEMES, Model, SCHEMES, SMALL_SCHEMES, all_weavings, mixed_weaving
from tests.search import fewest_events_till_late
from tests.wrong import NO_EVENTS, NO_LISTS, NO_NUMBERS, Odd, WRONG_HOUSES, WRONG_SCHEMES

W = [("take", 0), ("take", 1), ("end", 1), ("end", 0)]
RUN = ["scheme", "houses", "weaving"]
NAMES = {
    marks_along: RUN,
    missed_by: RUN + ["looks"],
    seen_below_marks: RUN + ["looks"],
    late_weaving: ["scheme", "houses", "distance"],
}


def told_marks(scheme, houses, weaving):
    """Return the sets of the settled numbers and the marks, before the first event and behind each one."""
    model = Model(scheme, houses)
    books = [set()]
    marks = [0]
    for event in weaving:
        model.happen(event)
        books.append(set(model.book))
        marks.append(min(model.pending(), default=model.frontier()))
    return books, marks


def told_missed(books, looks):
    seen = set()
    for look in looks:
        greatest = max(seen, default=-1)
        seen |= {number for number in books[look] if number > greatest}
    return sorted(number for number in books[-1] if number < max(seen, default=-1) and number not in seen)


def told_below(books, marks, looks):
    lists = []
    for look in looks:
        before = {number for row in lists for number in row}
        lists.append(sorted(number for number in books[look] if number < marks[look] and number not in before))
    return lists


def some_looks(many_events, seed):
    """Return lists of looks: none, one behind each event, equal ones, and mixed ones."""
    source = random.Random(seed)
    rows = [[], [0], [many_events], [0, 0, many_events, many_events], list(range(many_events + 1))]
    for many in (1, 2, 3, 6, 30):
        rows.append(sorted(source.randint(0, many_events) for _ in range(many)))
    return rows


class InterfaceTest(unittest.TestCase):
    def test_parameters(self):
        for call, names in NAMES.items():
            check_parameters(self, call, names)
            self.assertIs(getattr(readers, call.__name__), call)
            self.assertEqual(call.__module__, "holesleft.readers")

    def test_arguments_stay_and_lists_are_new(self):
        for scheme in SCHEMES:
            for weaving in [[], W]:
                run = {"scheme": scheme, "houses": 2, "weaving": list(weaving)}
                check_new_list(self, marks_along, tuple(run.values()), run)
                for looks in [[], [0, len(weaving)], [len(weaving)] * 3]:
                    by_name = {**run, "looks": list(looks)}
                    for call in (missed_by, seen_below_marks):
                        check_new_list(self, call, (scheme, 2, list(weaving), list(looks)), by_name)
            if scheme != ("late",):
                by_name = {"scheme": scheme, "houses": 3, "distance": 4}
                check_new_list(self, late_weaving, (scheme, 3, 4), by_name)

    def test_inner_lists_are_new(self):
        for _ in range(2):
            rows = seen_below_marks(("late",), 1, [("take", 0), ("end", 0)], [0, 2, 2, 2])
            self.assertEqual(rows, [[], [0], [], []])
            for row in rows:
                row.append("changed")


class MarksTest(unittest.TestCase):
    def check(self, scheme, houses, weaving):
        _, marks = told_marks(scheme, houses, weaving)
        found = marks_along(scheme, houses, weaving)
        self.assertEqual(found, marks, (scheme, houses, weaving))
        self.assertEqual(found, sorted(found))
        numbers = numbers_along(scheme, houses, weaving)
        for index, event in enumerate(weaving):
            if event[0] == "end":
                self.assertGreaterEqual(numbers[index], found[index], (scheme, houses, weaving))

    def test_all_short_weavings(self):
        for scheme in SMALL_SCHEMES:
            for houses, length in [(1, 6), (2, 4), (3, 3)]:
                for weaving in all_weavings(houses, length):
                    self.check(scheme, houses, weaving)

    def test_mixed_weavings(self):
        for seed, scheme in enumerate(SMALL_SCHEMES * 4):
            for houses in (1, 2, 3, 7, 20):
                self.check(scheme, houses, mixed_weaving(houses, 60, seed))
                self.check(scheme, houses, mixed_weaving(houses, 60, seed, ("take", "end", "fail")))

    def test_long_weavings_against_runs(self):
        for seed, scheme in enumerate(SCHEMES):
            for houses in (1, 4, 20):
                weaving = mixed_weaving(houses, 800, seed)
                marks = marks_along(scheme, houses, weaving)
                self.assertEqual(len(marks), 801)
                self.assertEqual(marks, sorted(marks))
                for many in (0, 1, 2, 150, 400, 799, 800):
                    pending = pending_of(scheme, houses, weaving[:many])
                    mark = pending[0][0] if pending else frontier_of(scheme, houses, weaving[:many])
                    self.assertEqual(marks[many], mark)

    def test_huge_lots(self):
        weaving = [("take", 0), ("take", 1), ("fall", 0), ("end", 1), ("fail", 1), ("take", 0)]
        self.assertEqual(marks_along(("again", HUGE), 2, weaving[:4]), [0, 0, 0, HUGE, HUGE + 1])
        weaving = [("take", 0), ("fail", 0), ("take", 0), ("fall", 0)]
        self.assertEqual(marks_along(("lost", HUGE), 1, weaving), [0, 0, 1, 1, HUGE])
        self.assertEqual(marks_along(("again", HUGE), 1, weaving), [0, 0, 0, 0, HUGE])

    def test_pool_numbers_are_pending(self):
        weaving = [("take", 0), ("take", 1), ("end", 1), ("fail", 0), ("take", 1), ("end", 1)]
        for order in ["least", "greatest", "oldest", "newest"]:
            self.assertEqual(marks_along(("pool", order), 2, weaving), [0, 0, 0, 0, 0, 0, 2])

    def test_no_events(self):
        for scheme in SCHEMES:
            self.assertEqual(marks_along(scheme, 20, []), [0])


class LooksTest(unittest.TestCase):
    def check(self, scheme, houses, weaving, looks):
        books, marks = told_marks(scheme, houses, weaving)
        told = (scheme, houses, weaving, looks)
        self.assertEqual(missed_by(scheme, houses, weaving, looks), told_missed(books, looks), told)
        self.assertEqual(seen_below_marks(scheme, houses, weaving, looks), told_below(books, marks, looks), told)

    def test_all_short_weavings_and_looks(self):
        weaving_looks = [[], [0], [3], [4], [2, 4], [3, 4], [3, 3], [1, 2, 3, 4], [0, 4, 4]]
        for scheme in SMALL_SCHEMES:
            for weaving in all_weavings(2, 4):
                for looks in weaving_looks:
                    if not looks or looks[-1] <= len(weaving):
                        self.check(scheme, 2, weaving, looks)

    def test_mixed_weavings(self):
        for seed, scheme in enumerate(SMALL_SCHEMES * 2):
            for houses in (1, 2, 3, 6, 20):
                for length in (10, 50):
                    weaving = mixed_weaving(houses, length, seed)
                    for looks in some_looks(length, seed):
                        self.check(scheme, houses, weaving, looks)

    def test_long_weavings(self):
        for seed, scheme in enumerate(SMALL_SCHEMES):
            weaving = mixed_weaving(7, 800, seed, ("take", "end", "fail"))
            for looks in some_looks(800, seed):
                books = [set()]
                numbers = numbers_along(scheme, 7, weaving)
                for number, event in zip(numbers, weaving):
                    books.append(books[-1] | ({number} if event[0] == "end" else set()))
                marks = marks_along(scheme, 7, weaving)
                self.assertEqual(missed_by(scheme, 7, weaving, looks), told_missed(books, looks))
                self.assertEqual(seen_below_marks(scheme, 7, weaving, looks), told_below(books, marks, looks))

    def test_huge_lots(self):
        for scheme in HUGE_SCHEMES:
            self.assertEqual(missed_by(scheme, 2, W, [3]), [0])
            self.assertEqual(missed_by(scheme, 2, W, [4]), [])
            self.assertEqual(seen_below_marks(scheme, 2, W, [3, 4]), [[], [0]])
            ending = [("fall", 0), ("fall", 1)]
            self.assertEqual(seen_below_marks(scheme, 2, W + ending, [3, 4, 5, 6, 6]), [[], [0], [HUGE], [], []])

    def test_no_looks_see_nothing(self):
        for scheme in SCHEMES:
            self.assertEqual(missed_by(scheme, 2, W, []), [])
            self.assertEqual(seen_below_marks(scheme, 2, W, []), [])
            self.assertEqual(missed_by(scheme, 2, [], [0, 0]), [])
            self.assertEqual(seen_below_marks(scheme, 2, [], [0, 0]), [[], []])

    def test_many_looks(self):
        self.assertEqual(seen_below_marks(("late",), 2, W, [4] * 1000), [[0, 1]] + [[]] * 999)
        self.assertEqual(missed_by(("again", 2), 2, W, [3] * 999 + [4]), [0])

    def test_late_and_one_house_miss_nothing(self):
        for seed, scheme in enumerate(SCHEMES):
            houses = 5 if scheme == ("late",) else 1
            weaving = mixed_weaving(houses, 100, seed)
            for looks in some_looks(100, seed):
                self.assertEqual(missed_by(scheme, houses, weaving, looks), [])


class LateWeavingTest(unittest.TestCase):
    def check(self, scheme, houses, distance):
        weaving = late_weaving(scheme, houses, distance)
        self.assertTrue(is_weaving(houses, weaving))
        self.assertEqual(count_words(weaving)["fall"], 0)
        self.assertEqual(weaving[-1][0], "end")
        book = book_of(scheme, houses, weaving)
        self.assertLessEqual(book[-1], max(book[:-1]) - distance, (scheme, houses, distance))
        return len(weaving)

    def test_each_distance(self):
        for scheme in SCHEMES + [("lost", 299), ("again", 300), ("lost", 301), ("again", 17)]:
            if scheme != ("late",):
                for houses in (2, 20):
                    for distance in range(1, 301):
                        self.check(scheme, houses, distance)

    def test_all_houses(self):
        for scheme in SCHEMES:
            if scheme != ("late",):
                for houses in range(2, 21):
                    for distance in (1, 2, houses - 1, houses, 150, 299, 300):
                        self.check(scheme, houses, distance)

    def test_no_weaving_is_shorter(self):
        for scheme in SMALL_SCHEMES:
            for houses in (2, 3):
                for distance in range(1, 7):
                    if scheme != ("late",):
                        length = self.check(scheme, houses, distance)
                        if length <= 8:
                            found = fewest_events_till_late(scheme, houses, distance, length)
                            self.assertEqual(found, length, (scheme, houses, distance))

    def test_lengths(self):
        for order in ["least", "greatest", "oldest", "newest"]:
            self.assertEqual(self.check(("pool", order), 2, 300), 602)
            self.assertEqual(self.check(("pool", order), 20, 19), 22)
        for kind in ("lost", "again"):
            self.assertEqual(self.check((kind, 1), 2, 300), 602)
            self.assertEqual(self.check((kind, 150), 2, 150), 4)
            self.assertEqual(self.check((kind, 150), 2, 151), 6)
            self.assertEqual(self.check((kind, 150), 3, 151), 5)

    def test_none_for_late_and_for_one_house(self):
        for distance in (1, 2, 299, 300):
            for houses in range(1, 21):
                self.assertIsNone(late_weaving(("late",), houses, distance))
            for scheme in SCHEMES:
                self.assertIsNone(late_weaving(scheme, 1, distance))

    def test_one_house_and_late_settle_in_ascending_order(self):
        for scheme in SMALL_SCHEMES:
            houses = 3 if scheme == ("late",) else 1
            self.assertIsNone(fewest_events_till_late(scheme, houses, 1, 8))


class ErrorsTest(unittest.TestCase):
    def test_schemes_and_houses(self):
        for call, names in NAMES.items():
            rest = (300,) if call is late_weaving else (W, [4])[:len(names) - 2]
            for scheme in WRONG_SCHEMES:
                check_error(self, InvalidScheme, call, (scheme, 2, *rest))
            for houses in WRONG_HOUSES:
                check_error(self, InvalidHouses, call, (("late",), houses, *rest))

    def test_weavings(self):
        for call in (marks_along, missed_by, seen_below_marks):
            rest = [] if call is marks_along else [[]]
            for value in NO_LISTS + [[("fall", 0)] * 801]:
                check_error(self, InvalidWeaving, call, (("late",), 2, value, *rest), index=None)
            for event in NO_EVENTS + [("take", 0), ("end", 1)]:
                check_error(self, InvalidWeaving, call, (("again", 2), 2, [W[0], event], *rest), index=1)
            call(("late",), 2, [("fall", 0)] * 800, *rest)

    def test_looks(self):
        wrong = NO_LISTS + [(0, 4), [5], [4, 5], [3, 2], [0, 4, 3], [1, 0], [-1], [0, -1], [10 ** 40]]
        wrong += [[value] for value in NO_NUMBERS] + [[1, value] for value in NO_NUMBERS]
        wrong += [[True, 2], [0, True], [None], [[0]], [0.0], [Odd()]]
        for call in (missed_by, seen_below_marks):
            for looks in wrong:
                for scheme in SCHEMES[::4]:
                    check_error(self, InvalidLooks, call, (scheme, 2, W, looks))
            check_error(self, InvalidLooks, call, (("late",), 2, [], [1]))
            for looks in [[], [0], [4], [0, 0, 4, 4], [0, 1, 2, 3, 4]]:
                call(("late",), 2, W, looks)

    def test_distances(self):
        wrong = [value for value in NO_NUMBERS if value != 0] + [0, 301, 302, 10 ** 40, True, False]
        for scheme in SCHEMES[::3]:
            for houses in (1, 2):
                for distance in wrong:
                    check_error(self, InvalidNumber, late_weaving, (scheme, houses, distance))

    def test_the_first_wrong_argument_tells(self):
        wrongs = [(("late", 1), InvalidScheme, {}), (True, InvalidHouses, {}),
                  ([("end", 0)], InvalidWeaving, {"index": 0})]
        check_first_wrong(self, marks_along, (("again", 2), 2, W), wrongs)
        for call in (missed_by, seen_below_marks):
            check_first_wrong(self, call, (("again", 2), 2, W, [4]), wrongs + [([-1], InvalidLooks, {})])
        check_first_wrong(self, late_weaving, (("again", 2), 2, 300), wrongs[:2] + [(301, InvalidNumber, {})])


if __name__ == "__main__":
    unittest.main()
