"""DOC.md [2] to [4], [11] and [20] to [22]: holesleft.risks."""

import unittest

from holesleft import risks
from holesleft.errors import InvalidHouses, InvalidNumber, InvalidRule, InvalidScheme, InvalidWeaving, TooLong
from holesleft.risks import first_refused, fullest_weaving, kept_weaving, most_holes, refused_along, risk_of
from holesleft.risks import worst_ending
from holesleft.runs import count_holes, frontier_of, holes_along, pool_of
from holesleft.schemes import is_weaving
from tests.calls import check_error, check_first_wrong, check_integer, check_new_list, check_parameters, count_words
from tests.model import HUGE, Model, SCHEMES, SMALL_SCHEMES, all_weavings, mixed_weaving
from tests.search import greatest_holes, greatest_risk
from tests.wrong import NO_EVENTS, NO_LISTS, NO_NUMBERS, WRONG_HOUSES, WRONG_RULES, WRONG_SCHEMES

POOLS = [("pool", order) for order in ["least", "greatest", "oldest", "newest"]]
LOTS = [("again", 1), ("again", 2), ("again", 3)]
W = [("take", 0), ("take", 1), ("end", 1), ("end", 0), ("take", 1), ("end", 1)]
NAMES = {
    most_holes: ["scheme", "houses", "fails", "falls"],
    fullest_weaving: ["scheme", "houses", "fails", "falls"],
    risk_of: ["scheme", "houses", "weaving"],
    worst_ending: ["scheme", "houses", "weaving"],
    refused_along: ["rule", "houses", "weaving"],
    kept_weaving: ["rule", "houses", "weaving"],
    first_refused: ["rule", "houses", "weaving"],
}


class InterfaceTest(unittest.TestCase):
    def test_parameters(self):
        for call, names in NAMES.items():
            check_parameters(self, call, names)
            self.assertIs(getattr(risks, call.__name__), call)
            self.assertEqual(call.__module__, "holesleft.risks")

    def test_arguments_stay_and_lists_are_new(self):
        for scheme in SCHEMES:
            arguments = (scheme, 3, 2, 1)
            check_new_list(self, fullest_weaving, arguments, dict(zip(NAMES[fullest_weaving], arguments)))
        for weaving in [[], W, W[:1], W[:2], W[:3]]:
            for scheme in LOTS + POOLS:
                by_name = {"scheme": scheme, "houses": 2, "weaving": list(weaving)}
                check_new_list(self, worst_ending, (scheme, 2, list(weaving)), by_name)
                for budget in (None, 0, 1):
                    by_name = {"rule": (scheme, budget), "houses": 2, "weaving": list(weaving)}
                    for call in (refused_along, kept_weaving):
                        check_new_list(self, call, ((scheme, budget), 2, list(weaving)), by_name)

    def test_integers_by_position_and_by_name(self):
        check_integer(self, most_holes, {"scheme": ("lost", 2), "houses": 3, "fails": 5, "falls": 1}, 11)
        check_integer(self, risk_of, {"scheme": ("again", 2), "houses": 2, "weaving": W[:2]}, 2)
        check_integer(self, first_refused, {"rule": (("again", 2), 1), "houses": 2, "weaving": W}, 1)
        check_integer(self, first_refused, {"rule": (("again", 2), 2), "houses": 2, "weaving": W}, None)


class MostHolesTest(unittest.TestCase):
    def test_all_weavings(self):
        for scheme in SMALL_SCHEMES:
            size = scheme[1] if scheme[0] in ("lost", "again") else 1
            for houses, fails, falls in [(1, 0, 0), (1, 2, 0), (1, 1, 1), (1, 2, 2), (2, 0, 0), (2, 1, 1), (2, 2, 0),
                                         (2, 0, 2), (3, 0, 0), (3, 1, 0), (3, 0, 1)]:
                bound = (houses + falls) * size + fails + size
                if bound <= 8:
                    found = greatest_holes(scheme, houses, fails, falls, bound)
                    self.assertEqual(most_holes(scheme, houses, fails, falls), found, (scheme, houses, fails, falls))

    def test_long_weavings_never_have_more(self):
        for seed, scheme in enumerate(SMALL_SCHEMES * 3):
            houses = seed % 20 + 1
            weaving = mixed_weaving(houses, 300, seed)
            words = count_words(weaving)
            most = most_holes(scheme, houses, words["fail"], words["fall"])
            self.assertLessEqual(max(holes_along(scheme, houses, weaving)), most)

    def test_each_scheme(self):
        for houses, fails, falls in [(1, 0, 0), (2, 3, 4), (20, 100, 100), (7, 10 ** 29, 0), (7, 0, 10 ** 29)]:
            self.assertEqual(most_holes(("late",), houses, fails, falls), 0)
            for scheme in POOLS:
                self.assertEqual(most_holes(scheme, houses, fails, falls), houses - 1)
            for size in (1, 2, 30, HUGE):
                lots = (houses - 1 + falls) * size
                self.assertEqual(most_holes(("again", size), houses, fails, falls), lots)
                self.assertEqual(most_holes(("lost", size), houses, fails, falls), lots + fails)

    def test_no_limit(self):
        self.assertEqual(most_holes(("lost", 3), 2, 101, 500), 501 * 3 + 101)


class FullestTest(unittest.TestCase):
    def test_as_many_holes_as_can_be(self):
        for scheme in SCHEMES:
            for houses in (1, 2, 3, 19, 20):
                for fails, falls in [(0, 0), (1, 0), (0, 1), (3, 2), (7, 0), (100, 0), (0, 100), (100, 100)]:
                    weaving = fullest_weaving(scheme, houses, fails, falls)
                    self.assertTrue(is_weaving(houses, weaving))
                    words = count_words(weaving)
                    self.assertLessEqual(words["fail"], fails)
                    self.assertLessEqual(words["fall"], falls)
                    self.assertEqual(count_holes(scheme, houses, weaving), most_holes(scheme, houses, fails, falls))

    def test_fails_and_falls_of_100_and_101(self):
        for scheme in SCHEMES:
            for fails, falls in [(101, 0), (0, 101), (101, 101), (100, 101), (101, 100), (10 ** 29, 0)]:
                check_error(self, TooLong, fullest_weaving, (scheme, 2, fails, falls), limit=100)
            fullest_weaving(scheme, 2, 100, 100)


class RiskTest(unittest.TestCase):
    def check(self, scheme, houses, weaving):
        risk = risk_of(scheme, houses, weaving)
        ending = worst_ending(scheme, houses, weaving)
        self.assertLessEqual(len(ending), 21)
        # The weaving can be one of 800 events; then no more than its shape is asked of what follows.
        if len(weaving) + len(ending) <= 800:
            longer = weaving + ending
            self.assertTrue(is_weaving(houses, longer))
            self.assertEqual(count_holes(scheme, houses, longer), risk)
            self.assertEqual(frontier_of(scheme, houses, longer), frontier_of(scheme, houses, weaving))
        return risk

    def test_all_short_weavings(self):
        for scheme in LOTS + POOLS:
            for houses, length in [(1, 5), (2, 4), (3, 3)]:
                for weaving in all_weavings(houses, length):
                    expected = greatest_risk(scheme, houses, weaving)
                    self.assertEqual(self.check(scheme, houses, weaving), expected, (scheme, houses, weaving))

    def test_mixed_weavings(self):
        for scheme in LOTS + POOLS:
            for houses in (1, 2, 3):
                for seed in range(12):
                    weaving = mixed_weaving(houses, 5 + seed, seed)
                    expected = greatest_risk(scheme, houses, weaving)
                    self.assertEqual(self.check(scheme, houses, weaving), expected, (scheme, houses, weaving))

    def test_long_weavings(self):
        for houses in range(1, 21):
            for length in (30, 200, 770):
                self.check(("again", HUGE), houses, mixed_weaving(houses, length, houses))
                for seed, scheme in enumerate(LOTS + POOLS):
                    weaving = mixed_weaving(houses, length, seed + houses)
                    model = Model(scheme, houses)
                    for event in weaving:
                        model.happen(event)
                    # One of the numbers that can be settled next is, or none.
                    firsts = [min(lot) for lot in model.lots.values()] + model.pool + list(model.open.values())
                    holes = [len(model.holes())] + [number - len(model.book) for number in firsts]
                    self.assertEqual(self.check(scheme, houses, weaving), max(holes))

    def test_the_empty_weaving(self):
        for scheme in LOTS + POOLS:
            for houses in (1, 20):
                self.assertEqual(risk_of(scheme, houses, []), 0)
                self.assertEqual(worst_ending(scheme, houses, []), [])

    def test_takes_out_of_a_whole_pool(self):
        weaving = [("take", house) for house in range(20)] + [("fail", house) for house in range(20)]
        for scheme in POOLS:
            self.assertEqual(self.check(scheme, 20, weaving), 19)
            place = pool_of(scheme, 20, weaving).index(19)
            ending = worst_ending(scheme, 20, weaving)
            self.assertEqual(count_words(ending), {"take": place + 1, "end": 1, "fail": 0, "fall": 0})
        self.assertEqual(len(worst_ending(("pool", "least"), 20, weaving)), 21)

    def test_huge_lots(self):
        weaving = [("take", house) for house in range(20)]
        self.assertEqual(self.check(("again", HUGE), 20, weaving), 19 * HUGE)
        self.assertEqual(worst_ending(("again", HUGE), 20, weaving), [("end", 19)])
        weaving.append(("fail", 19))
        self.assertEqual(worst_ending(("again", HUGE), 20, weaving), [("take", 19), ("end", 19)])
        weaving.append(("fall", 19))
        self.assertEqual(self.check(("again", HUGE), 20, weaving), 18 * HUGE)

    def test_a_lower_lot_is_no_greater_risk(self):
        weaving = [("take", 0), ("take", 1), ("take", 2), ("end", 2), ("take", 2), ("end", 2)]
        self.assertEqual(self.check(("again", 2), 3, weaving), 4)
        self.assertEqual(worst_ending(("again", 2), 3, weaving), [])

    def test_behind_800_events(self):
        turns = [("take", 1), ("end", 1)] * 399 + [("take", 1), ("take", 0)]
        for scheme in LOTS + POOLS:
            self.assertEqual(len(turns), 800)
            risk = risk_of(scheme, 2, turns)
            self.assertEqual(worst_ending(scheme, 2, turns), [("end", 0)])
            self.assertEqual(risk, frontier_of(scheme, 2, turns[:-1]) - 399)

    def test_late_and_lost(self):
        for scheme in [("late",), ("lost", 1), ("lost", 2), ("lost", HUGE)]:
            for call in (risk_of, worst_ending):
                for weaving in [[], W]:
                    check_error(self, InvalidScheme, call, (scheme, 2, weaving))
                check_error(self, InvalidScheme, call, (scheme, 0, None))
                check_error(self, InvalidScheme, call, (scheme, 2, W[2:]))


def told_rule(rule, houses, weaving):
    """Return the refused indexes and the events that happen, by the words of point 11."""
    scheme, budget = rule
    model = Model(scheme, houses)
    refused = []
    happened = []
    turned_away = set()
    for index, (word, house) in enumerate(weaving):
        if word in ("take", "fall"):
            turned_away.discard(house)
        if word == "take" and budget is not None:
            if scheme[0] == "again":
                refuse = house not in model.lots and len(model.pending() | model.lost) > budget
            else:
                refuse = not model.pool and len(model.open) > budget
            if refuse:
                refused.append(index)
                turned_away.add(house)
        if house not in turned_away:
            model.happen((word, house))
            happened.append((word, house))
    return refused, happened


class RulesTest(unittest.TestCase):
    def check(self, rule, houses, weaving):
        refused, happened = told_rule(rule, houses, weaving)
        self.assertEqual(refused_along(rule, houses, weaving), refused, (rule, houses, weaving))
        self.assertEqual(kept_weaving(rule, houses, weaving), happened, (rule, houses, weaving))
        first = refused[0] if refused else None
        self.assertEqual(first_refused(rule, houses, weaving), first)
        return refused

    def test_all_short_weavings(self):
        for houses, length in [(1, 5), (2, 4), (3, 3)]:
            for weaving in all_weavings(houses, length):
                for scheme in LOTS + POOLS:
                    for budget in (0, 1, 2, 3):
                        self.check((scheme, budget), houses, weaving)

    def test_mixed_weavings(self):
        many = 0
        for houses in range(1, 21):
            for seed, scheme in enumerate(LOTS + POOLS + [("again", 4)]):
                weaving = mixed_weaving(houses, 120, seed + houses)
                for budget in (0, 1, houses - 1, houses, 3 * houses, 10 ** 29):
                    many += len(self.check((scheme, budget), houses, weaving))
        self.assertGreater(many, 1000)

    def test_without_a_budget_all_happens(self):
        for scheme in SCHEMES:
            for weaving in [[], W, mixed_weaving(2, 800, 4)]:
                self.assertEqual(refused_along((scheme, None), 2, weaving), [])
                self.assertIsNone(first_refused((scheme, None), 2, weaving))
                kept = kept_weaving((scheme, None), 2, weaving)
                self.assertEqual(kept, weaving)
                self.assertIsNot(kept, weaving)

    def test_never_more_holes_than_the_budget(self):
        for houses in (1, 2, 3, 8, 20):
            for seed in range(6):
                weaving = mixed_weaving(houses, 800, seed)
                for scheme in LOTS + POOLS:
                    for budget in (0, 1, 2, 5, houses):
                        kept = kept_weaving((scheme, budget), houses, weaving)
                        self.assertTrue(is_weaving(houses, kept))
                        self.assertLessEqual(max(holes_along(scheme, houses, kept)), budget)
                        self.assertEqual(refused_along((scheme, budget), houses, kept), [])

    def test_a_refused_take_is_a_risk_of_more_than_the_budget(self):
        checked = 0
        for houses in (2, 3, 8, 20):
            for seed, scheme in enumerate(LOTS + POOLS):
                weaving = mixed_weaving(houses, 90, seed)
                for budget in (0, 1, 2, 5):
                    for index in refused_along((scheme, budget), houses, weaving):
                        before = kept_weaving((scheme, budget), houses, weaving[:index])
                        self.assertGreater(risk_of(scheme, houses, before + [weaving[index]]), budget)
                        checked += 1
        self.assertGreater(checked, 200)

    def test_a_take_that_is_not_refused_is_no_such_risk(self):
        for houses in (2, 3, 8):
            for seed, scheme in enumerate(LOTS + POOLS):
                weaving = mixed_weaving(houses, 60, seed)
                for budget in (0, 1, 2, 5):
                    kept = kept_weaving((scheme, budget), houses, weaving)
                    for length in range(len(kept) + 1):
                        self.assertLessEqual(risk_of(scheme, houses, kept[:length]), budget)

    def test_ends_fails_and_falls_of_refused_takes(self):
        rule = (("again", 2), 1)
        for word in ["end", "fail", "fall"]:
            weaving = [("take", 0), ("take", 1), (word, 1), ("take", 1), (word, 1), ("end", 0), ("take", 1)]
            falls = [("fall", 1)] if word == "fall" else []
            kept = [("take", 0)] + falls + falls + [("end", 0), ("take", 1)]
            self.assertEqual(refused_along(rule, 2, weaving), [1, 3])
            self.assertEqual(kept_weaving(rule, 2, weaving), kept)
            self.assertEqual(first_refused(rule, 2, weaving), 1)

    def test_a_fall_between_opens_nothing(self):
        # Behind the refused take and the fall the house has no open deed; its next take counts anew.
        weaving = [("take", 0), ("take", 1), ("fall", 1), ("fall", 0), ("take", 1), ("end", 1)]
        self.assertEqual(refused_along((("again", 1), 0), 2, weaving), [1, 4])
        self.assertEqual(kept_weaving((("again", 1), 0), 2, weaving), [("take", 0), ("fall", 1), ("fall", 0)])
        self.assertEqual(refused_along((("again", 1), 1), 2, weaving), [4])
        self.assertEqual(refused_along((("again", 1), 2), 2, weaving), [])
        self.assertEqual(refused_along((("pool", "least"), 0), 2, weaving), [1])
        happened = [("take", 0), ("fall", 1), ("fall", 0), ("take", 1), ("end", 1)]
        self.assertEqual(kept_weaving((("pool", "least"), 0), 2, weaving), happened)

    def test_lost_numbers_stay_in_the_way(self):
        weaving = [("take", 0), ("fall", 0)] * 5 + [("take", 0)]
        self.assertEqual(refused_along((("again", 3), 5), 1, weaving), [4, 6, 8, 10])
        self.assertEqual(refused_along((("again", 3), 6), 1, weaving), [6, 8, 10])
        self.assertEqual(refused_along((("again", HUGE), 3 * HUGE - 1), 1, weaving), [6, 8, 10])
        self.assertEqual(refused_along((("again", HUGE), 3 * HUGE), 1, weaving), [8, 10])

    def test_a_house_with_a_lot_is_not_refused(self):
        weaving = [("take", 0), ("end", 0), ("take", 0), ("fail", 0), ("take", 0), ("end", 0), ("take", 0), ("end", 0)]
        self.assertEqual(refused_along((("again", 3), 0), 1, weaving), [])
        self.assertEqual(refused_along((("again", 3), 0), 2, weaving + [("take", 0), ("take", 1)]), [9])

    def test_a_number_of_the_pool_is_not_refused(self):
        weaving = [("take", 0), ("take", 1), ("take", 2), ("fail", 0), ("take", 0), ("take", 3)]
        for scheme in POOLS:
            self.assertEqual(refused_along((scheme, 2), 4, weaving), [5])
            self.assertEqual(refused_along((scheme, 1), 4, weaving), [2, 5])
            self.assertEqual(refused_along((scheme, 3), 4, weaving), [])

    def test_800_events(self):
        for scheme in LOTS + POOLS:
            weaving = mixed_weaving(20, 800, 11)
            for budget in (None, 0, 7):
                if budget is not None:
                    self.check((scheme, budget), 20, weaving[:400])
                self.assertLessEqual(len(kept_weaving((scheme, budget), 20, weaving)), 800)


class ErrorsTest(unittest.TestCase):
    def calls(self):
        return [
            (most_holes, (("again", 2), 2, 0, 0)), (fullest_weaving, (("again", 2), 2, 0, 0)),
            (risk_of, (("again", 2), 2, [])), (worst_ending, (("again", 2), 2, [])),
            (refused_along, ((("again", 2), 1), 2, [])), (kept_weaving, ((("again", 2), 1), 2, [])),
            (first_refused, ((("again", 2), 1), 2, [])),
        ]

    def test_schemes(self):
        for scheme in WRONG_SCHEMES:
            for call, rights in self.calls()[:4]:
                check_error(self, InvalidScheme, call, (scheme,) + rights[1:])
            for call, rights in self.calls()[4:]:
                check_error(self, InvalidRule, call, ((scheme, None),) + rights[1:])

    def test_rules(self):
        for rule in WRONG_RULES:
            for call, rights in self.calls()[4:]:
                check_error(self, InvalidRule, call, (rule,) + rights[1:])
                check_error(self, InvalidRule, call, (rule, 2, W))
        for call, rights in self.calls()[4:]:
            for scheme in LOTS + POOLS + [("again", HUGE)]:
                for budget in (None, 0, 1, 10 ** 30, 10 ** 60):
                    call((scheme, budget), 2, W)

    def test_houses(self):
        for houses in WRONG_HOUSES:
            for call, rights in self.calls():
                check_error(self, InvalidHouses, call, (rights[0], houses) + rights[2:])

    def test_fails_and_falls(self):
        for value in NO_NUMBERS:
            for scheme in [("late",), ("lost", 2), ("again", 2), ("pool", "oldest")]:
                for call in (most_holes, fullest_weaving):
                    check_error(self, InvalidNumber, call, (scheme, 2, value, 0))
                    check_error(self, InvalidNumber, call, (scheme, 2, 0, value))
                    check_error(self, InvalidNumber, call, (scheme, 2, 101, value))

    def test_weavings(self):
        for call, rights in self.calls()[2:]:
            for value in NO_LISTS + [tuple(W), mixed_weaving(2, 801, 2)]:
                check_error(self, InvalidWeaving, call, (rights[0], 2, value), index=None)
            for item in NO_EVENTS:
                check_error(self, InvalidWeaving, call, (rights[0], 2, [item]), index=0)
                check_error(self, InvalidWeaving, call, (rights[0], 2, W + [item]), index=6)
            check_error(self, InvalidWeaving, call, (rights[0], 1, W), index=1)
            check_error(self, InvalidWeaving, call, (rights[0], 2, W + [("end", 1)]), index=6)
            # What a rule lets happen has no part in what a weaving is.
            check_error(self, InvalidWeaving, call, (rights[0], 2, W[:2] + [("take", 1)]), index=2)

    def test_the_first_argument_that_is_wrong_tells(self):
        scheme = (("lost", 0), InvalidScheme, {})
        houses = (True, InvalidHouses, {})
        number = (-1, InvalidNumber, {})
        weaving = (W[2:], InvalidWeaving, {"index": 0})
        for call, rights in self.calls()[:2]:
            check_first_wrong(self, call, rights, [scheme, houses, number, number])
        for call, rights in self.calls()[2:4]:
            check_first_wrong(self, call, rights, [scheme, houses, weaving])
            check_first_wrong(self, call, rights, [(("lost", 1), InvalidScheme, {}), houses, weaving])
        for call, rights in self.calls()[4:]:
            check_first_wrong(self, call, rights, [((("late",), 0), InvalidRule, {}), houses, weaving])

    def test_right_arguments_raise_nothing(self):
        for houses in (1, 20):
            weaving = mixed_weaving(houses, 800, 9)
            for scheme in SCHEMES:
                most_holes(scheme, houses, 0, 10 ** 30 - 1)
                fullest_weaving(scheme, houses, 100, 100)
                for call in (refused_along, kept_weaving, first_refused):
                    call((scheme, None), houses, weaving)
                if scheme[0] in ("again", "pool"):
                    risk_of(scheme, houses, weaving)
                    worst_ending(scheme, houses, weaving)

    def test_an_error_leaves_nothing_behind(self):
        before = [call(*rights) for call, rights in self.calls()]
        for call, rights in self.calls()[2:]:
            check_error(self, InvalidWeaving, call, (rights[0], 2, W + [("end", 0)]), index=6)
        check_error(self, TooLong, fullest_weaving, (("again", 2), 2, 101, 0), limit=100)
        self.assertEqual([call(*rights) for call, rights in self.calls()], before)


if __name__ == "__main__":
    unittest.main()
