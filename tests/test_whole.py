"""DOC.md [1] to [4] over the whole program: its names, and that its modules tell the same."""

import importlib
import inspect
import unittest

from holesleft import errors
from holesleft.books import book_fault, is_book, least_houses, weaving_for
from holesleft.compare import parting_book, same_books, sizes_that_fit
from holesleft.console import Console
from holesleft.desks import BudgetDesk, Desk, ReadingBudgetDesk, ReadingDesk
from holesleft.errors import HolesError, Refused
from holesleft.falls import fewest_fails, fewest_falls, heard_along, houses_and_falls, unfinished_along
from holesleft.falls import weaving_with_falls
from holesleft.readers import marks_along, missed_by, seen_below_marks
from holesleft.risks import first_refused, fullest_weaving, kept_weaving, most_holes, refused_along, risk_of
from holesleft.risks import worst_ending
from holesleft.runs import book_of, count_holes, frontier_of, holes_along, holes_of, lost_of, numbers_along
from holesleft.runs import open_numbers_of, pending_of
from holesleft.schemes import can_follow, deeds_of, is_weaving
from holesleft.sights import can_see
from holesleft.texts import format_numbers, format_scheme, format_weaving, parse_numbers, parse_scheme, parse_weaving
from holesleft.wishes import WISHES, breaking_weaving, grants
from holesleft.words import book_index, book_of_digits, digits_of, nth_book
from tests.calls import count_words
from tests.lists import all_lists
from tests.model import SCHEMES, SMALL_SCHEMES, all_weavings, mixed_weaving

RUN = "scheme houses weaving"
LISTED = {
    "schemes": {"is_scheme": "value", "is_weaving": "houses value", "can_follow": "houses weaving",
                "deeds_of": "houses weaving", "without_house": "houses weaving house"},
    "runs": {name: RUN for name in [
        "numbers_along", "open_numbers_of", "rests_of", "pool_of", "book_of", "frontier_of", "count_holes", "lost_of",
        "pending_of", "holes_of", "holes_along"]},
    "books": {"is_book": "scheme houses value", "book_fault": "scheme houses numbers", "least_houses": "scheme numbers",
              "lots_heard": "size numbers", "weaving_for": "scheme houses numbers"},
    "words": {"digits_of": "size numbers", "book_of_digits": "size digits", "next_numbers": "size houses numbers",
              "count_books": "houses length", "book_index": "size houses numbers", "count_full": "per_lot houses lots",
              "nth_book": "size houses length index", "count_by_holes": "houses length"},
    "falls": {"unfinished_along": "size numbers", "heard_along": "size numbers", "houses_and_falls": "size numbers",
              "fewest_falls": "size houses numbers", "weaving_with_falls": "size houses numbers",
              "fewest_fails": "size houses numbers"},
    "risks": {"most_holes": "scheme houses fails falls", "fullest_weaving": "scheme houses fails falls", "risk_of": RUN,
              "worst_ending": RUN, "refused_along": "rule houses weaving", "kept_weaving": "rule houses weaving",
              "first_refused": "rule houses weaving"},
    "readers": {"marks_along": RUN, "missed_by": RUN + " looks", "seen_below_marks": RUN + " looks",
                "late_weaving": "scheme houses distance"},
    "sights": {"can_see": "scheme houses value", "sight_fault": "scheme houses numbers",
               "see_weaving": "scheme houses numbers"},
    "compare": {"same_books": "one one_houses other other_houses", "parting_book": "one one_houses other other_houses",
                "sizes_that_fit": "numbers most"},
    "wishes": {"is_rule": "value", "grants": "rule houses falls wish", "can_have": "wishes houses falls",
               "breaking_weaving": "rule houses falls wish", "rule_for": "wishes houses falls"},
    "desks": {"Desk": "scheme houses", "BudgetDesk": "scheme houses budget", "ReadingDesk": "scheme houses",
              "ReadingBudgetDesk": "scheme houses budget"},
    "texts": {"format_scheme": "scheme", "format_numbers": "numbers", "format_weaving": "houses weaving",
              "parse_scheme": "text", "parse_numbers": "text", "parse_weaving": "houses text"},
    "console": {"Console": ""},
}
ERRORS = {name: "" for name in """InvalidScheme InvalidHouses InvalidSize InvalidNumber InvalidDigits InvalidIndex
    InvalidRule InvalidBudget InvalidFlag InvalidWish InvalidWishes InvalidLooks InvalidHouse InvalidEvent
    InvalidCommand OpenDeed NoDeed NothingToUndo""".split()}
ERRORS.update({"InvalidWeaving": "index", "InvalidNumbers": "index", "NotABook": "index", "Unseen": "index",
               "TooFewHouses": "least", "TooLong": "limit", "Refused": "amount", "InvalidText": "word"})
LETTERS = {"take": "t", "end": "e", "fail": "f", "fall": "x"}
NO_FALLS = ("take", "end", "fail")


def called(desk, event):
    return getattr(desk, event[0])(event[1])


class NamesTest(unittest.TestCase):
    def test_each_name_stands_in_its_file(self):
        for module, names in LISTED.items():
            found = importlib.import_module(f"holesleft.{module}")
            for name, parameters in names.items():
                kept = getattr(found, name)
                self.assertEqual(kept.__module__, f"holesleft.{module}")
                self.assertEqual(list(inspect.signature(kept).parameters), parameters.split(), name)
                self.assertIs(inspect.isclass(kept), name[0].isupper())

    def test_errors(self):
        for name, field in ERRORS.items():
            kind = getattr(errors, name)
            self.assertEqual(kind.__bases__, (HolesError,))
            self.assertEqual(kind.__module__, "holesleft.errors")
            error = kind(7 if field else "words")
            if field:
                self.assertEqual(getattr(error, field), 7)
                self.assertEqual(vars(kind(**{field: None})), {field: None})
        self.assertEqual(HolesError.__bases__, (ValueError,))
        own = {name for name, kind in vars(errors).items() if inspect.isclass(kind)}
        self.assertEqual(own, {*ERRORS, "HolesError"})


class SameTest(unittest.TestCase):
    """Weavings through all modules."""

    def check_desk(self, scheme, houses, weaving):
        desk, reader = Desk(scheme, houses), ReadingDesk(scheme, houses)
        console = Console()
        self.assertEqual(console.execute(f"desk {houses} {format_scheme(scheme)}"), "ok")
        numbers = numbers_along(scheme, houses, weaving)
        marks = marks_along(scheme, houses, weaving)
        looks = []
        told = []
        for index, event in enumerate(weaving):
            result = numbers[index] if event[0] in ("take", "end") else None
            self.assertEqual(called(desk, event), result)
            self.assertEqual(called(reader, event), result)
            answer = console.execute(f"{LETTERS[event[0]]} {event[1]}")
            number = "none" if result is None else str(result)
            self.assertEqual(answer, "ok" if event[0] in ("fail", "fall") else number)
            if index % 23 == 0:
                self.assertEqual([desk.mark, reader.mark], [marks[index + 1]] * 2)
                self.assertEqual(console.execute("mark"), str(marks[index + 1]))
                looks.append(index + 1)
                told.append(reader.look())
                self.assertEqual(console.execute("look"), format_numbers(told[-1]) or "none")
        run = (scheme, houses, weaving)
        for one in (desk, reader):
            self.assertEqual([one.weaving, one.book, one.open_numbers], [weaving, book_of(*run), open_numbers_of(*run)])
            self.assertEqual([one.holes, one.lost, one.mark], [holes_of(*run), lost_of(*run), marks[-1]])
            self.assertEqual(one.described()[1], f"holes {count_holes(*run)}")
            self.assertEqual(len(one), len(weaving))
        self.assertEqual(reader.missed, missed_by(*run, looks))
        self.assertEqual(console.execute("weaving"), format_weaving(houses, weaving) or "none")
        self.assertEqual(console.execute("missed"), " ".join(map(str, reader.missed)) or "none")
        below = [number for row in seen_below_marks(*run, looks + [len(weaving)]) for number in row]
        self.assertEqual(below, [number for number in sorted(book_of(*run)) if number < marks[-1]])
        if scheme[0] in ("again", "pool"):
            self.assertEqual(console.execute("risk"), str(risk_of(*run)))
            self.assertGreaterEqual(risk_of(*run), count_holes(*run))
            ending = worst_ending(*run)
            twin = desk.twin()
            for event in ending:
                called(twin, event)
            self.assertEqual(sum(last - first + 1 for first, last in twin.holes), risk_of(*run))
        self.assertEqual(parse_scheme(format_scheme(scheme)), scheme)
        self.assertEqual(parse_weaving(houses, format_weaving(houses, weaving)), weaving)

    def test_drawn_weavings(self):
        for seed, scheme in enumerate(SCHEMES):
            for houses in (1, 2, 6, 20):
                self.check_desk(scheme, houses, mixed_weaving(houses, 120, seed))

    def test_weavings_of_800_events(self):
        for seed, scheme in enumerate([("late",), ("lost", 3), ("again", 2), ("pool", "oldest"), SCHEMES[-1]]):
            self.check_desk(scheme, 4 + seed, mixed_weaving(4 + seed, 800, seed))

    def test_small_weavings(self):
        for scheme in SMALL_SCHEMES:
            for weaving in all_weavings(2, 3):
                self.check_desk(scheme, 2, weaving)

    def test_deeds_and_books(self):
        for seed, scheme in enumerate(SCHEMES):
            for houses in (1, 3, 20):
                weaving = mixed_weaving(houses, 300, seed)
                numbers = numbers_along(scheme, houses, weaving)
                deeds = deeds_of(houses, weaving)
                ended = sorted(finish for _, _, finish, outcome in deeds if outcome == "end")
                self.assertEqual([numbers[index] for index in ended], book_of(scheme, houses, weaving))
                is_open = [("end", house) in can_follow(houses, weaving) for house in range(houses)]
                self.assertEqual(len([deed for deed in deeds if deed[3] == "open"]), sum(is_open))
                numbered = [number is not None for number in open_numbers_of(scheme, houses, weaving)]
                self.assertEqual(numbered, [False] * houses if scheme == ("late",) else is_open)
                parts = pending_of(scheme, houses, weaving) + lost_of(scheme, houses, weaving)
                many = sum(last - first + 1 for first, last in parts) + len(book_of(scheme, houses, weaving))
                self.assertEqual(many, frontier_of(scheme, houses, weaving))

    def test_rules_and_desks_refuse_the_same(self):
        for seed, scheme in enumerate(SCHEMES * 3):
            if scheme[0] in ("again", "pool"):
                houses, budget = seed % 6 + 1, seed % 5
                weaving = mixed_weaving(houses, 300, seed)
                desk = BudgetDesk(scheme, houses, budget)
                refused = []
                for index, event in enumerate(weaving):
                    try:
                        called(desk, event)
                    except Refused:
                        refused.append(index)
                    except HolesError:
                        # The end or fail of a deed whose take was refused.
                        self.assertIn(event[0], ("end", "fail"))
                rule = (scheme, budget)
                self.assertEqual(refused, refused_along(rule, houses, weaving))
                self.assertEqual(desk.weaving, kept_weaving(rule, houses, weaving))
                self.assertEqual(first_refused(rule, houses, weaving), refused[0] if refused else None)

    def test_breaking_weavings_on_desks(self):
        for scheme in [("again", 1), ("again", 3), ("pool", "least"), ("pool", "newest")]:
            for houses in (1, 2, 4):
                for budget in (0, 1, 2, 5):
                    for wish in WISHES:
                        weaving = breaking_weaving((scheme, budget), houses, True, wish)
                        self.assertIs(weaving is None, grants((scheme, budget), houses, True, wish))
                        desk = ReadingBudgetDesk(scheme, houses, budget)
                        if wish == "free" and weaving:
                            with self.assertRaises(Refused):
                                desk.try_events(*weaving)
                            weaving = weaving[:-1]
                        results = desk.try_events(*(weaving or []))
                        self.assertEqual(len(results), len(weaving or []))


class GuaranteesTest(unittest.TestCase):
    """Point 4, beside what the tests of the single modules hold against a search."""

    def test_books_without_falls(self):
        for seed, scheme in enumerate(SMALL_SCHEMES):
            for houses in (1, 2, 3, 7, 20):
                weaving = mixed_weaving(houses, 150, seed, NO_FALLS)
                book = book_of(scheme, houses, weaving)
                self.assertTrue(is_book(scheme, houses, book))
                self.assertIsNone(book_fault(scheme, houses, book))
                least = least_houses(scheme, book)
                self.assertLessEqual(least, houses)
                self.assertIs(is_book(scheme, max(1, least - 1), book), least == 1)
                self.assertEqual(book_of(scheme, least, weaving_for(scheme, least, book)), book)
                self.assertEqual(parse_numbers(format_numbers(book)), book)
                if scheme[0] == "again":
                    size = scheme[1]
                    digits = digits_of(size, book)
                    self.assertEqual(max(digits, default=0) + 1, least)
                    self.assertEqual(book_of_digits(size, digits), book)
                    index = book_index(size, houses, book)
                    self.assertEqual(nth_book(size, houses, len(book), index), book)
                    self.assertIn(size, sizes_that_fit(book, 5))
                if scheme[0] == "lost":
                    fails = len([event for event in weaving if event[0] == "fail"])
                    self.assertLessEqual(fewest_fails(scheme[1], houses, book), fails)

    def test_falls(self):
        for size in (1, 2, 3, 5):
            for houses in (1, 2, 3, 7, 20):
                weaving = mixed_weaving(houses, 200, size + houses)
                book = book_of(("again", size), houses, weaving)
                most = max(unfinished_along(size, book), default=1)
                least = max(heard_along(size, book), default=1)
                self.assertLessEqual(least, houses)
                self.assertLessEqual(fewest_falls(size, houses, book), count_words(weaving)["fall"])
                pairs = houses_and_falls(size, book)
                self.assertEqual(pairs, [(many, most - many) for many in range(least, most + 1)])
                for many, falls in pairs:
                    if many <= 20:
                        found = weaving_with_falls(size, many, book)
                        self.assertEqual(book_of(("again", size), many, found), book)
                        self.assertEqual(count_words(found)["fall"], falls)

    def test_holes(self):
        for seed, scheme in enumerate(SMALL_SCHEMES * 2):
            houses = seed % 20 + 1
            weaving = mixed_weaving(houses, 400, seed)
            words = count_words(weaving)
            most = most_holes(scheme, houses, words["fail"], words["fall"])
            self.assertLessEqual(max(holes_along(scheme, houses, weaving)), most)
            fullest = fullest_weaving(scheme, houses, 9, 7)
            self.assertTrue(is_weaving(houses, fullest))
            self.assertEqual(Desk(scheme, houses).twin().try_events(*fullest)[-1], book_of(scheme, houses, fullest)[-1])
            self.assertEqual(count_holes(scheme, houses, fullest), most_holes(scheme, houses, 9, 7))

    def test_two_schemes(self):
        lists = all_lists(4, 3)
        for one in SMALL_SCHEMES:
            for other in SMALL_SCHEMES:
                for one_houses, other_houses in [(1, 1), (1, 2), (2, 2), (2, 3)]:
                    told = (one, one_houses, other, other_houses)
                    parted = [row for row in lists
                              if is_book(one, one_houses, row) != is_book(other, other_houses, row)]
                    book = parting_book(*told)
                    self.assertIs(same_books(*told), book is None)
                    if book is None:
                        self.assertEqual(parted, [])
                    else:
                        self.assertNotEqual(is_book(one, one_houses, book), is_book(other, other_houses, book))
                        for row in parted:
                            self.assertLessEqual((len(book), book), (len(row), row))

    def test_one_house_sees_a_part_of_a_book(self):
        for seed, scheme in enumerate(SMALL_SCHEMES):
            for houses in (1, 2, 3, 20):
                weaving = mixed_weaving(houses, 200, seed, NO_FALLS)
                rows = zip(weaving, numbers_along(scheme, houses, weaving))
                self.assertTrue(can_see(scheme, houses, [number for event, number in rows if event == ("end", 0)]))


if __name__ == "__main__":
    unittest.main()
