"""DOC.md [2] to [4] and [30] to [32]: holesleft.desks."""

import inspect
import itertools
import unittest

from holesleft import desks, errors
from holesleft.desks import BudgetDesk, Desk, ReadingBudgetDesk, ReadingDesk
from holesleft.errors import InvalidBudget, InvalidEvent, InvalidHouse, InvalidHouses, InvalidScheme
from holesleft.errors import NoDeed, NothingToUndo, OpenDeed, Refused
from holesleft.risks import risk_of
from tests.calls import check_error, check_first_wrong, check_parameters
from tests.model import HUGE, HUGE_SCHEMES, SCHEMES
from tests.told_desk import ToldDesk, some_calls
from tests.wrong import NO_EVENTS, NO_NUMBERS, Odd, WRONG_HOUSES, WRONG_SCHEMES

CLASSES = [Desk, BudgetDesk, ReadingDesk, ReadingBudgetDesk]
WITH_BUDGET = [scheme for scheme in SCHEMES if scheme[0] in ("again", "pool")]
WITHOUT_BUDGET = [scheme for scheme in SCHEMES if scheme[0] in ("late", "lost")]
PROPERTIES = ["scheme", "houses", "weaving", "book", "open_numbers", "holes", "lost", "mark"]


def has_budget(kind):
    return kind in (BudgetDesk, ReadingBudgetDesk)


def reads(kind):
    return kind in (ReadingDesk, ReadingBudgetDesk)


def new_desk(kind, scheme, houses, budget=10 ** 30):
    return kind(scheme, houses, budget) if has_budget(kind) else kind(scheme, houses)


def new_told(kind, scheme, houses, budget=10 ** 30):
    return ToldDesk(scheme, houses, budget if has_budget(kind) else None, reads(kind))


def all_desks(houses, budget=10 ** 30):
    for kind in CLASSES:
        for scheme in WITH_BUDGET if has_budget(kind) else SCHEMES:
            yield new_desk(kind, scheme, houses, budget)


def called(desk, call):
    if isinstance(call, str):
        return getattr(desk, call)()
    return getattr(desk, call[0])(call[1])


def state(desk):
    """Return all that a desk tells of itself."""
    names = [name for name in PROPERTIES + ["budget", "missed"] if hasattr(desk, name)]
    return {name: getattr(desk, name) for name in names}, desk.described(), len(desk)


class DeskTest(unittest.TestCase):
    """Methods that the tests share."""

    def check_state(self, desk, told):
        self.assertEqual(state(desk), (told.properties(), told.described(), len(told.weaving())), told.calls)

    def check_call(self, desk, told, call):
        """Check one call on a desk against the slow one."""
        if call == "undo":
            if told.calls:
                self.assertIsNone(desk.undo())
                told.calls.pop()
            else:
                check_error(self, NothingToUndo, desk.undo, ())
        elif call == "look":
            told.calls.append("look")
            self.assertEqual(desk.look(), told.seen()[-1], told.calls)
        else:
            self.check_event(desk, told, call)

    def check_event(self, desk, told, event):
        error = told.expected_error(event)
        word, house = event
        if error is not None:
            fields = {"amount": error[1]} if error[0] == "Refused" else {}
            check_error(self, getattr(errors, error[0]), getattr(desk, word), (house,), **fields)
            with self.assertRaises(getattr(errors, error[0])):
                desk.try_events(event)
            return
        result = told.result(event)
        self.assertEqual(desk.try_events(event), [result])
        self.assertEqual(getattr(desk, word)(house), result, (told.calls, event))
        told.calls.append(event)


class InterfaceTest(DeskTest):
    def test_parameters(self):
        for kind, names in [(Desk, ["scheme", "houses"]), (BudgetDesk, ["scheme", "houses", "budget"]),
                            (ReadingDesk, ["scheme", "houses"]), (ReadingBudgetDesk, ["scheme", "houses", "budget"])]:
            check_parameters(self, kind, names)
            self.assertEqual(kind.__module__, "holesleft.desks")
            for name in ["take", "end", "fail", "fall"]:
                check_parameters(self, getattr(kind, name), ["self", "house"])
            for name in ["undo", "twin", "described"] + ["look"] * reads(kind):
                check_parameters(self, getattr(kind, name), ["self"])
            rest = list(inspect.signature(kind.try_events).parameters.values())[1:]
            self.assertEqual([(part.name, part.kind) for part in rest], [("events", inspect.Parameter.VAR_POSITIONAL)])

    def test_classes(self):
        self.assertEqual(Desk.__bases__, (object,))
        self.assertEqual(BudgetDesk.__bases__, (Desk,))
        self.assertEqual(ReadingDesk.__bases__, (Desk,))
        self.assertEqual(set(ReadingBudgetDesk.__bases__), {ReadingDesk, BudgetDesk})
        for kind in CLASSES:
            self.assertIs(getattr(desks, kind.__name__), kind)

    def test_listed_names_stand_in_their_class(self):
        listed = {
            Desk: ["take", "end", "fail", "fall", "undo", "twin", "try_events", "described", "__len__", "__eq__"],
            ReadingDesk: ["look"],
        }
        for kind, names in listed.items():
            for name in names:
                self.assertTrue(inspect.isfunction(vars(kind)[name]), name)
        for kind, names in {Desk: PROPERTIES, BudgetDesk: ["budget"], ReadingDesk: ["missed"]}.items():
            for name in names:
                self.assertIsInstance(vars(kind)[name], property)

    def test_by_name(self):
        desk = ReadingBudgetDesk(scheme=("again", 2), houses=2, budget=7)
        self.assertEqual([desk.take(house=0), desk.end(house=0), desk.take(house=0)], [0, 0, 1])
        self.assertEqual([desk.fail(house=0), desk.fall(house=0), desk.undo(), desk.look()], [None, None, None, [0]])
        self.assertEqual(BudgetDesk(scheme=("again", 2), houses=2, budget=7).budget, 7)
        for kind in (Desk, ReadingDesk):
            self.assertEqual(kind(scheme=("late",), houses=20).houses, 20)

    def test_a_new_desk(self):
        for desk in all_desks(3):
            told = new_told(desk.__class__, desk.scheme, 3)
            self.check_state(desk, told)
            self.assertEqual([desk.mark, desk.book, desk.open_numbers, len(desk)], [0, [], [None] * 3, 0])
            check_error(self, NothingToUndo, desk.undo, ())
            self.check_state(desk, told)

    def test_told_lists_can_be_changed(self):
        for kind in CLASSES:
            desk = new_desk(kind, ("again", 2), 3, 9)
            for call in [("take", 0), ("take", 1), ("end", 1), ("take", 2), ("fall", 2)]:
                called(desk, call)
            rows = []
            if reads(kind):
                rows.append(desk.look())
                called(desk, ("end", 0))
                rows.append(desk.missed)
            kept = state(desk)
            rows += [desk.weaving, desk.book, desk.open_numbers, desk.holes, desk.lost, desk.described()]
            rows += [desk.try_events(("fall", 0), ("take", 0)), desk.twin().weaving]
            for row in rows:
                row.append("changed")
                row.reverse()
            self.assertEqual(state(desk), kept)
            self.assertEqual(desk.twin(), desk)
            desk.undo()
            self.assertNotEqual(state(desk), kept)


class CallsTest(DeskTest):
    def play(self, kind, scheme, houses, calls, budget=10 ** 30, each=9):
        """Call all of these on a desk and on the slow one, and take all back at the end."""
        desk = new_desk(kind, scheme, houses, budget)
        told = new_told(kind, scheme, houses, budget)
        for index, call in enumerate(calls):
            self.check_call(desk, told, call)
            if index % each == 0:
                self.check_state(desk, told)
        self.check_state(desk, told)
        while told.calls:
            self.check_call(desk, told, "undo")
            if len(told.calls) % each == 0:
                self.check_state(desk, told)
        check_error(self, NothingToUndo, desk.undo, ())
        self.check_state(desk, told)

    def test_each_class_and_scheme(self):
        for kind in CLASSES:
            for seed, scheme in enumerate(WITH_BUDGET if has_budget(kind) else SCHEMES):
                for houses in (1, 2, 3, 20):
                    calls = some_calls(houses, 30 if houses < 20 else 90, seed * 20 + houses, reads(kind))
                    self.play(kind, scheme, houses, calls, each=1)

    def test_300_calls(self):
        for seed, kind in enumerate(CLASSES):
            for scheme in [("again", 2), ("pool", "newest")] if has_budget(kind) else [("late",), ("lost", 3)]:
                self.play(kind, scheme, 5, some_calls(5, 300, seed, reads(kind)), each=25)

    def test_budgets(self):
        for kind in (BudgetDesk, ReadingBudgetDesk):
            for seed, scheme in enumerate(WITH_BUDGET):
                size = scheme[1] if scheme[0] == "again" else 1
                for houses, budget in [(2, 0), (3, 1), (4, size), (5, 2 * size - 1), (6, 3 * size), (20, 5)]:
                    self.play(kind, scheme, houses, some_calls(houses, 50, seed + budget % 97, reads(kind)), budget, 10)

    def test_all_short_calls(self):
        words = [("take", 0), ("take", 1), ("end", 0), ("end", 1), ("fail", 0), ("fall", 1), "undo", "look"]
        for kind in (Desk, ReadingBudgetDesk):
            for scheme in [("again", 2), ("pool", "least")]:
                for calls in itertools.product(words if reads(kind) else words[:-1], repeat=3):
                    self.play(kind, scheme, 2, [("take", 0), *calls], budget=1, each=1)

    def test_undo_of_each_kind_of_call(self):
        for desk in all_desks(2):
            calls = [("take", 0), ("take", 1), ("end", 1), ("fail", 0), ("take", 0), ("fall", 0)]
            if reads(desk.__class__):
                calls = ["look", *calls[:3], "look", "look", *calls[3:], "look"]
            states = [state(desk)]
            for call in calls:
                called(desk, call)
                states.append(state(desk))
            for before in states[-2::-1]:
                self.assertIsNone(desk.undo())
                self.assertEqual(state(desk), before)
            check_error(self, NothingToUndo, desk.undo, ())

    def test_huge_lots(self):
        for scheme in HUGE_SCHEMES:
            desk = ReadingDesk(scheme, 2)
            self.assertEqual([desk.take(0), desk.take(1), desk.end(1), desk.look()], [0, HUGE, HUGE, [HUGE]])
            self.assertEqual([desk.holes, desk.fall(0), desk.lost], [[(0, HUGE - 1)], None, [(0, HUGE - 1)]])
            self.assertEqual([desk.mark, desk.described()], [HUGE + 1, ["settled 1", f"holes {HUGE}", "missed 0"]])

    def test_a_call_with_an_error_changes_nothing(self):
        for desk in all_desks(2, 0):
            called(desk, ("take", 0))
            kept = state(desk)
            wrong = [("take", 0), ("end", 1), ("fail", 1), ("take", 2), ("end", -1), ("fall", None), ("fail", True)]
            wrong += [("take", 1)] * has_budget(desk.__class__)
            for word, house in wrong:
                with self.assertRaises(errors.HolesError):
                    getattr(desk, word)(house)
                self.assertEqual(state(desk), kept)
            desk.undo()
            self.assertEqual(state(desk), state(new_desk(desk.__class__, desk.scheme, 2, 0)))
            check_error(self, NothingToUndo, desk.undo, ())


class BudgetTest(DeskTest):
    def test_at_the_budget_and_one_more(self):
        for size in (1, 2, 3, HUGE):
            for lots in (1, 2, 3):
                desk = BudgetDesk(("again", size), 5, lots * size - 1)
                for house in range(lots):
                    self.assertEqual(desk.take(house), house * size)
                check_error(self, Refused, desk.take, (lots,), amount=lots * size)
                self.assertEqual(len(desk), lots)
                # One number less is pending, and then the take is not refused.
                desk.end(0)
                self.assertEqual(desk.take(lots), lots * size)
                desk.undo()
                desk.undo()
                desk.fall(0)
                check_error(self, Refused, desk.take, (0,), amount=lots * size)
        for order in ["least", "greatest", "oldest", "newest"]:
            for budget in (0, 1, 5, 18):
                desk = BudgetDesk(("pool", order), 20, budget)
                for house in range(budget + 1):
                    desk.take(house)
                check_error(self, Refused, desk.take, (budget + 1,), amount=budget + 1)
                desk.fail(0)
                self.assertEqual(desk.take(budget + 1), 0)

    def test_refused_comes_behind_the_other_errors(self):
        for kind in (BudgetDesk, ReadingBudgetDesk):
            desk = kind(("again", 1), 3, 0)
            desk.take(0)
            check_error(self, Refused, desk.take, (1,), amount=1)
            check_error(self, OpenDeed, desk.take, (0,))
            check_error(self, InvalidHouse, desk.take, (3,))
            check_error(self, NoDeed, desk.end, (1,))
            check_error(self, NoDeed, desk.fail, (1,))
            self.assertIsNone(desk.fall(1))
            self.assertEqual(desk.weaving, [("take", 0), ("fall", 1)])

    def test_never_more_holes_and_refused_only_where_it_must_be(self):
        for seed, scheme in enumerate(WITH_BUDGET * 3):
            budget = seed % 7
            houses = seed % 5 + 2
            desk = BudgetDesk(scheme, houses, budget)
            for call in some_calls(houses, 250, seed, False):
                try:
                    called(desk, call)
                except Refused:
                    longer = desk.weaving + [call]
                    self.assertGreater(risk_of(scheme, houses, longer), budget)
                except errors.HolesError:
                    pass
                self.assertLessEqual(sum(last - first + 1 for first, last in desk.holes), budget)


class EqualTest(DeskTest):
    def test_drawn_desks(self):
        for kind in CLASSES:
            for seed, scheme in enumerate(WITH_BUDGET if has_budget(kind) else SCHEMES):
                pairs = []
                for many in (0, 1, 2, 2, 3, 3, 3, 4, 4, 4, 5, 5, 6, 6):
                    desk = new_desk(kind, scheme, 2)
                    told = new_told(kind, scheme, 2)
                    for call in some_calls(2, many, seed + 31 * len(pairs), reads(kind)):
                        if call == "undo" and told.calls or call == "look" or (
                                isinstance(call, tuple) and told.expected_error(call) is None):
                            self.check_call(desk, told, call)
                    pairs.append((desk, told))
                for (one, first), (other, second) in itertools.product(pairs, repeat=2):
                    same = first.compared() == second.compared()
                    self.assertIs(one == other, same, (first.calls, second.calls))
                    self.assertIs(one != other, not same)

    def reached(self, kind, scheme, *calls):
        desk = new_desk(kind, scheme, 3)
        for call in calls:
            called(desk, call)
        return desk

    def test_the_same_state_by_other_events(self):
        t0, t1, e0, e1, f0, f1, x0 = [(word, house) for word, house in [
            ("take", 0), ("take", 1), ("end", 0), ("end", 1), ("fail", 0), ("fail", 1), ("fall", 0)]]
        equal = [
            (("late",), [t0, f0], []), (("late",), [t0, e0, t0], [t1, e1, t0]), (("late",), [x0], []),
            (("lost", 2), [t0, f0], [t1, f1]), (("lost", 1), [t0, x0], [t0, f0]),
            (("again", 2), [t0, f0], [t1, f1]), (("again", 2), [t0, f0], [t1, f1, t1, f1]),
            (("again", 2), [t0, e0, t1, x0], [t0, e0, x0, t1]),
            (("pool", "oldest"), [t0, t1, f0, f1], [t0, t1, f1, f0]),
            (("pool", "least"), [t0, e0, t0, e0], [t0, t1, e0, e1]),
        ]
        unequal = [
            (("late",), [t0], []), (("late",), [t0], [t1]), (("late",), [t0, e0], [t0, f0]),
            (("lost", 2), [t0, f0], [t0]), (("lost", 2), [t0, f0], [t0, x0]), (("again", 2), [t0, f0], [t0]),
            (("again", 2), [t0, x0], [t0, f0]), (("again", 2), [t0], [t1]),
            (("pool", "least"), [t0, t1, e0, e1], [t0, t1, e1, e0]), (("pool", "least"), [t0, f0], [t0]),
        ]
        for kind in CLASSES:
            for same, rows in [(True, equal), (False, unequal)]:
                for scheme, one, other in rows:
                    if scheme[0] in ("again", "pool") or not has_budget(kind):
                        first, second = self.reached(kind, scheme, *one), self.reached(kind, scheme, *other)
                        self.assertIs(first == second, same, (kind, scheme, one, other))
                        self.assertIs(second == first, same)
                        self.assertIs(first != second, not same)

    def test_classes_schemes_houses_and_budgets(self):
        made = [new_desk(kind, scheme, houses, budget) for kind in CLASSES for scheme in WITH_BUDGET
                for houses in (1, 2, 20) for budget in ((0, 1, 10 ** 29) if has_budget(kind) else (0,))]
        made += [new_desk(kind, scheme, 2) for kind in (Desk, ReadingDesk) for scheme in WITHOUT_BUDGET]
        for (index, one), (place, other) in itertools.product(enumerate(made), repeat=2):
            self.assertIs(one == other, index == place)

    def test_looks(self):
        for kind in (ReadingDesk, ReadingBudgetDesk):
            settle = [("take", 0), ("end", 0)]
            once = self.reached(kind, ("again", 2), *settle, *settle, "look")
            twice = self.reached(kind, ("again", 2), *settle, "look", "look", *settle, "look")
            early = self.reached(kind, ("again", 2), *settle, "look", *settle)
            self.assertTrue(once == twice)
            self.assertFalse(once == early)
            early.look()
            self.assertTrue(once == early)
            early.undo()
            self.assertFalse(once == early)
            none = self.reached(kind, ("again", 2))
            blind = self.reached(kind, ("again", 2), "look")
            self.assertTrue(none == blind)

    def test_values_that_are_no_desk(self):
        for desk in all_desks(2):
            for value in [None, True, 0, "", [], (), {}, desk.weaving, state(desk), Desk, desk.scheme, object(), Odd()]:
                self.assertIs(desk == value, False)
                self.assertIs(desk != value, True)


class TwinTest(DeskTest):
    def test_twins_go_their_own_ways(self):
        for kind in CLASSES:
            for seed, scheme in enumerate(WITH_BUDGET if has_budget(kind) else SCHEMES):
                for houses in (1, 3, 7):
                    desk = new_desk(kind, scheme, houses, 6)
                    told = new_told(kind, scheme, houses, 6)
                    for call in some_calls(houses, 25, seed, reads(kind)):
                        self.check_call(desk, told, call)
                    twin = desk.twin()
                    self.assertIs(twin.__class__, kind)
                    self.assertTrue(twin == desk)
                    self.check_state(twin, told)
                    other = new_told(kind, scheme, houses, 6)
                    other.calls = list(told.calls)
                    ways = [(desk, told), (twin, other)]
                    for index, call in enumerate(some_calls(houses, 30, seed + 1000, reads(kind))):
                        self.check_call(*ways[index % 3 % 2], call)
                    for one, slow in ways:
                        self.check_state(one, slow)
                    for one, slow in ways:
                        while slow.calls:
                            self.check_call(one, slow, "undo")
                        check_error(self, NothingToUndo, one.undo, ())
                    self.assertTrue(twin == desk)

    def test_twins_of_new_desks(self):
        for desk in all_desks(2):
            twin = desk.twin()
            self.assertIsNot(twin, desk)
            self.assertIs(twin.__class__, desk.__class__)
            self.assertTrue(twin == desk)
            called(twin, ("take", 0))
            self.assertEqual([len(desk), len(twin)], [0, 1])


class TryTest(DeskTest):
    def test_none_one_and_many(self):
        for desk in all_desks(2):
            kept = state(desk)
            self.assertEqual(desk.try_events(), [])
            events = [("take", 0), ("take", 1), ("end", 1), ("fail", 0), ("take", 0), ("end", 0), ("fall", 1)]
            twin = desk.twin()
            results = [called(twin, event) for event in events]
            self.assertEqual(desk.try_events(*events), results)
            self.assertEqual(desk.try_events(*events), results)
            self.assertEqual(state(desk), kept)
            check_error(self, NothingToUndo, desk.undo, ())

    def test_behind_calls(self):
        for desk in all_desks(2):
            called(desk, ("take", 0))
            kept = state(desk)
            self.assertEqual(desk.try_events(("fail", 0), ("fall", 0), ("fall", 0)), [None] * 3)
            self.assertEqual(state(desk), kept)
            desk.undo()
            self.assertEqual(len(desk), 0)

    def test_events_that_cannot_follow(self):
        for desk in all_desks(2):
            kept = state(desk)
            check_error(self, OpenDeed, desk.try_events, (("take", 0), ("take", 0)))
            check_error(self, NoDeed, desk.try_events, (("end", 0),))
            check_error(self, NoDeed, desk.try_events, (("take", 0), ("fail", 0), ("fail", 0)))
            check_error(self, NoDeed, desk.try_events, (("take", 0), ("fall", 0), ("end", 0), ("take", 0)))
            self.assertEqual(state(desk), kept)

    def test_refused_events(self):
        for kind in (BudgetDesk, ReadingBudgetDesk):
            for scheme, amount in [(("again", 3), 3), (("pool", "newest"), 1)]:
                desk = kind(scheme, 3, 0)
                check_error(self, Refused, desk.try_events, (("take", 0), ("take", 1)), amount=amount)
                check_error(self, Refused, desk.try_events, (("take", 0), ("take", 1), ("end", 1)), amount=amount)
                check_error(self, InvalidEvent, desk.try_events, (("take", 0), ("take", 1), ("end", 3)))
                self.assertEqual(len(desk), 0)
                results = desk.try_events(("take", 0), ("end", 0), ("take", 0))
                self.assertEqual(results, [0, 0, 1])

    def test_values_that_are_no_events(self):
        for kind in CLASSES:
            desk = new_desk(kind, ("again", 2), 2)
            for value in NO_EVENTS + ["look", "undo", ("look",), ("undo", 0)]:
                check_error(self, InvalidEvent, desk.try_events, (value,))
                check_error(self, InvalidEvent, desk.try_events, (("take", 0), value))
                # The value is checked ahead of the event that cannot follow.
                check_error(self, InvalidEvent, desk.try_events, (("end", 0), ("take", 0), value))
            self.assertEqual(len(desk), 0)


class ErrorsTest(DeskTest):
    def test_schemes_and_houses(self):
        for kind in CLASSES:
            rest = (5,) if has_budget(kind) else ()
            for value in WRONG_SCHEMES:
                check_error(self, InvalidScheme, kind, (value, 2, *rest))
            for value in WRONG_HOUSES:
                check_error(self, InvalidHouses, kind, (("again", 2), value, *rest))
            for houses in (1, 20):
                kind(("again", 2), houses, *rest)

    def test_budgets(self):
        for kind in (BudgetDesk, ReadingBudgetDesk):
            for scheme in WITHOUT_BUDGET:
                for houses, budget in [(2, 5), (0, 5), (2, None), (None, -1)]:
                    check_error(self, InvalidScheme, kind, (scheme, houses, budget))
            for scheme in WITH_BUDGET:
                for budget in NO_NUMBERS:
                    check_error(self, InvalidBudget, kind, (scheme, 2, budget))
                for budget in (0, 1, 10 ** 30 - 1):
                    self.assertEqual(kind(scheme, 2, budget).budget, budget)

    def test_the_first_wrong_argument_tells(self):
        wrongs = [(("lost",), InvalidScheme, {}), (True, InvalidHouses, {}), (-1, InvalidBudget, {})]
        for kind in CLASSES:
            rights = (("again", 2), 2, 0) if has_budget(kind) else (("again", 2), 2)
            check_first_wrong(self, kind, rights, wrongs[:len(rights)])

    def test_houses_of_calls(self):
        wrong = [-1, 3, 4, 10 ** 40, -10 ** 40, True, False, None, "0", 0.0, b"0", [0], (0,), {}, object(), Odd()]
        for desk in all_desks(3):
            called(desk, ("take", 0))
            for value in wrong:
                for name in ("take", "end", "fail", "fall"):
                    check_error(self, InvalidHouse, getattr(desk, name), (value,))
            self.assertEqual(desk.weaving, [("take", 0)])

    def test_deeds(self):
        for desk in all_desks(2):
            check_error(self, NoDeed, desk.end, (0,))
            check_error(self, NoDeed, desk.fail, (0,))
            for ending in ("end", "fail", "fall"):
                called(desk, ("take", 0))
                check_error(self, OpenDeed, desk.take, (0,))
                check_error(self, NoDeed, desk.end, (1,))
                called(desk, (ending, 0))
                check_error(self, NoDeed, desk.end, (0,))
                check_error(self, NoDeed, desk.fail, (0,))


if __name__ == "__main__":
    unittest.main()
