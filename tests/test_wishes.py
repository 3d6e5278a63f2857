"""DOC.md [2], [3], [11], [28] and [29]: holesleft.wishes."""

import itertools
import unittest

from holesleft import wishes as wishes_module
from holesleft.errors import InvalidFlag, InvalidHouses, InvalidRule, InvalidWish, InvalidWishes, TooLong
from holesleft.risks import kept_weaving, refused_along
from holesleft.runs import holes_along, lost_of, numbers_along
from holesleft.schemes import is_weaving
from holesleft.wishes import breaking_weaving, can_have, grants, is_rule, rule_for
from tests.calls import check_error, check_first_wrong, check_integer, check_new_list, check_parameters, count_words
from tests.model import HUGE, SCHEMES, SMALL_SCHEMES
from tests.search import fewest_events_to_break
from tests.wrong import NO_LISTS, Odd, WRONG_HOUSES, WRONG_RULES

WISHES = ["early", "full", "rest", "ascending", "kept", "free"]
POOLS = [("pool", order) for order in ["least", "greatest", "oldest", "newest"]]
LOTS = [("again", size) for size in (1, 2, 3, 4, 5)]
WISH = ["rule", "houses", "falls", "wish"]
NAMES = {
    is_rule: ["value"],
    grants: WISH,
    breaking_weaving: WISH,
    can_have: ["wishes", "houses", "falls"],
    rule_for: ["wishes", "houses", "falls"],
}
NO_FLAGS = [None, 0, 1, 2, "", "True", "falls", b"1", 1.0, [], [True], (True,), {}, object(), Odd()]
NO_WISHES = [
    None, True, 0, "", "Early", "early ", "earl", "fullest", "free,kept", b"early", ["early"], ("early",), {}, object(),
    Odd(),
]
SMALL_RULES = [(scheme, None) for scheme in SMALL_SCHEMES + LOTS[3:]]
SMALL_RULES += [(scheme, budget) for scheme in LOTS + POOLS for budget in (0, 1, 2, 3, 4, 5, 7)]
HUGE_RULES = [(("lost", HUGE), None), (("again", HUGE), None)]
HUGE_RULES += [(("again", HUGE), budget) for budget in
               (0, 1, 7, HUGE - 400, HUGE - 399, HUGE - 398, HUGE - 1, HUGE, HUGE + 1, 2 * HUGE, 19 * HUGE)]


def first_break(rule, houses, weaving, wish):
    """Return the index of the first event that breaks a wish, by what the other modules tell, or None."""
    scheme = rule[0]
    if wish == "free":
        return min(refused_along(rule, houses, weaving), default=None)
    holes = holes_along(scheme, houses, weaving)
    numbers = numbers_along(scheme, houses, weaving)
    busy = set()
    greatest = -1
    for index, (word, house) in enumerate(weaving):
        busy = busy | {house} if word == "take" else busy - {house}
        broken = {
            "early": word == "take" and numbers[index] is None,
            "full": holes[index] > 0,
            "rest": holes[index] > 0 and not busy,
            "ascending": word == "end" and numbers[index] < greatest,
            "kept": wish == "kept" and lost_of(scheme, houses, weaving[:index + 1]) != [],
        }
        if broken[wish]:
            return index
        if word == "end":
            greatest = max(greatest, numbers[index])
    return None


class InterfaceTest(unittest.TestCase):
    def test_parameters(self):
        for call, names in NAMES.items():
            check_parameters(self, call, names)
            self.assertIs(getattr(wishes_module, call.__name__), call)
            self.assertEqual(call.__module__, "holesleft.wishes")

    def test_arguments_stay_and_lists_are_new(self):
        for wish in WISHES[1:]:
            rule = (("lost", 2), None) if wish == "kept" else (("again", 3), 2)
            check_new_list(self, breaking_weaving, (rule, 2, True, wish), dict(zip(WISH, (rule, 2, True, wish))))
        rule = (("late",), None)
        check_new_list(self, breaking_weaving, (rule, 2, True, "early"), dict(zip(WISH, (rule, 2, True, "early"))))

    def test_values_by_position_and_by_name(self):
        check_integer(self, grants, dict(zip(WISH, ((("late",), None), 2, False, "full"))), True)
        check_integer(self, grants, dict(zip(WISH, ((("late",), None), 2, False, "early"))), False)
        check_integer(self, breaking_weaving, dict(zip(WISH, ((("late",), None), 2, False, "full"))), None)
        by_name = {"wishes": ["early", "free"], "houses": 2, "falls": False}
        check_integer(self, can_have, by_name, True)
        check_integer(self, rule_for, by_name, rule_for(["early", "free"], 2, False))
        by_name["wishes"].append("full")
        check_integer(self, can_have, by_name, False)
        check_integer(self, rule_for, by_name, None)


class RuleTest(unittest.TestCase):
    def test_rules(self):
        for scheme in SCHEMES:
            self.assertIs(is_rule((scheme, None)), True)
            for budget in (0, 1, 7, 10 ** 30 - 1):
                self.assertIs(is_rule((scheme, budget)), scheme[0] in ("again", "pool"))

    def test_no_rules(self):
        for value in WRONG_RULES:
            self.assertIs(is_rule(value), False)


class BreakingTest(unittest.TestCase):
    def check(self, rule, houses, falls, wish):
        """Check what is returned for a wish, and return the number of events, None if it is granted."""
        told = (rule, houses, falls, wish)
        granted = grants(*told)
        weaving = breaking_weaving(*told)
        self.assertIs(granted, weaving is None, told)
        if weaving is None:
            return None
        self.assertTrue(is_weaving(houses, weaving), told)
        if not falls:
            self.assertEqual(count_words(weaving)["fall"], 0, told)
        self.assertEqual(first_break(rule, houses, weaving, wish), len(weaving) - 1, told)
        happened = weaving[:-1] if wish == "free" else weaving
        self.assertEqual(kept_weaving(rule, houses, weaving), happened, told)
        return len(weaving)

    def check_too_long(self, rule, houses, falls, wish):
        self.assertIs(grants(rule, houses, falls, wish), False)
        check_error(self, TooLong, breaking_weaving, (rule, houses, falls, wish), limit=800)

    def test_no_weaving_is_shorter(self):
        for rule, falls, wish in itertools.product(SMALL_RULES, [False, True], WISHES):
            for houses, limit in [(1, 14), (2, 10), (3, 8), (4, 6)]:
                length = self.check(rule, houses, falls, wish)
                limit = limit if length is None else min(limit, length)
                found = fewest_events_to_break(rule, houses, falls, wish, limit)
                expected = None if length is None or length > limit else length
                self.assertEqual(found, expected, (rule, houses, falls, wish))

    def test_more_houses(self):
        for rule, falls, wish in itertools.product(SMALL_RULES + HUGE_RULES, [False, True], WISHES):
            for houses in (1, 2, 5, 19, 20):
                try:
                    self.check(rule, houses, falls, wish)
                except TooLong:
                    self.check_too_long(rule, houses, falls, wish)

    def test_early(self):
        for rule in SMALL_RULES + HUGE_RULES:
            for houses in (1, 20):
                self.assertEqual(self.check(rule, houses, True, "early"), 1 if rule[0] == ("late",) else None)

    def test_kept(self):
        for rule in SMALL_RULES + HUGE_RULES:
            kind = rule[0][0]
            for houses in (1, 2, 20):
                self.assertEqual(self.check(rule, houses, False, "kept"), 2 if kind == "lost" else None)
                self.assertEqual(self.check(rule, houses, True, "kept"), 2 if kind in ("lost", "again") else None)

    def test_late_breaks_only_early(self):
        for houses, falls, wish in itertools.product((1, 2, 20), [False, True], WISHES):
            self.assertIs(grants((("late",), None), houses, falls, wish), wish != "early")

    def test_one_house_without_falls(self):
        for rule, wish in itertools.product(SMALL_RULES + HUGE_RULES, WISHES):
            broken = {"lost": ["full", "rest", "kept"], "late": ["early"]}.get(rule[0][0], [])
            self.assertIs(grants(rule, 1, False, wish), wish not in broken, (rule, wish))

    def test_two_houses_and_lots_that_must_be_dealt_first(self):
        for size in (2, 3, 50, 399, 400, 401, HUGE):
            for many in (0, 1, 2, 100, 397, 398, 399, 400):
                if many < size:
                    rule = (("again", size), size - many)
                    for falls in (False, True):
                        lengths = {"full": max(3, 2 * many + 2), "rest": max(4, 2 * many + 2),
                                   "ascending": max(4, 2 * many + 4)}
                        for wish, length in lengths.items():
                            if length > 800:
                                self.check_too_long(rule, 2, falls, wish)
                            else:
                                self.assertEqual(self.check(rule, 2, falls, wish), length, (rule, wish))

    def test_one_house_that_falls(self):
        for size in (2, 3, 50, 399, 400, HUGE):
            for many in (0, 1, 2, 100, 397, 398, 399):
                if many < size:
                    rule = (("again", size), size - many)
                    length = 2 * many + 3 if many else 4
                    for wish in ("full", "rest"):
                        self.assertIs(grants(rule, 1, False, wish), True)
                        if length > 800:
                            self.check_too_long(rule, 1, True, wish)
                        else:
                            self.assertEqual(self.check(rule, 1, True, wish), length, (rule, wish))
                    self.assertIs(grants(rule, 1, True, "ascending"), True)

    def test_the_budget_0(self):
        for scheme, houses, falls, wish in itertools.product(LOTS + POOLS, (1, 2, 20), [False, True], WISHES[1:4]):
            self.assertIs(grants((scheme, 0), houses, falls, wish), True)

    def test_refused_lots(self):
        for size in (1, 2, 7, HUGE):
            for lots in (1, 2, 3, 18, 19, 20, 21, 399, 400, 401, 409, 410):
                for budget in ((lots - 1) * size, lots * size - 1):
                    for houses in (1, 2, 19, 20):
                        rule = (("again", size), budget)
                        fallen = max(0, lots - (houses - 1))
                        self.assertIs(grants(rule, houses, False, "free"), fallen > 0)
                        if fallen == 0:
                            self.assertEqual(self.check(rule, houses, False, "free"), lots + 1)
                        if lots + fallen + 1 > 800:
                            self.check_too_long(rule, houses, True, "free")
                        else:
                            self.assertEqual(self.check(rule, houses, True, "free"), lots + fallen + 1)

    def test_refused_deeds(self):
        for scheme, falls, houses in itertools.product(POOLS, [False, True], range(1, 21)):
            for budget in (0, 1, 5, 17, 18, 19, 20, 10 ** 29):
                length = self.check((scheme, budget), houses, falls, "free")
                self.assertEqual(length, budget + 2 if houses - 1 > budget else None)

    def test_no_budget_refuses_nothing(self):
        for scheme, falls, houses in itertools.product(SCHEMES, [False, True], (1, 20)):
            self.assertIs(grants((scheme, None), houses, falls, "free"), True)

    def test_far_too_long(self):
        for wish in ("full", "rest", "ascending"):
            self.check_too_long((("again", HUGE), 1), 20, False, wish)
        self.check_too_long((("again", HUGE), 1), 1, True, "full")
        self.check_too_long((("again", 1), 10 ** 29), 20, True, "free")


class WishesTest(unittest.TestCase):
    def told(self, wishes, houses):
        if houses == 1 or "early" not in wishes or "free" not in wishes:
            return True
        return not {"full", "rest", "ascending"} & set(wishes)

    def test_each_list_of_different_wishes(self):
        rows = [list(row) for many in range(7) for row in itertools.permutations(WISHES, many)]
        self.assertEqual(len(rows), 1957)
        for wishes, houses, falls in itertools.product(rows, (1, 2, 20), [False, True]):
            rule = rule_for(wishes, houses, falls)
            told = (wishes, houses, falls)
            self.assertIs(can_have(wishes, houses, falls), self.told(wishes, houses), told)
            self.assertIs(rule is not None, self.told(wishes, houses), told)
            if rule is not None:
                self.assertTrue(is_rule(rule))
                for wish in wishes:
                    self.assertTrue(grants(rule, houses, falls, wish), told)

    def test_no_rule_grants_what_cannot_be_had(self):
        sets = [row for many in range(7) for row in itertools.combinations(WISHES, many)]
        for houses, falls in itertools.product((1, 2, 3, 20), [False, True]):
            granted = [{wish for wish in WISHES if grants(rule, houses, falls, wish)}
                       for rule in SMALL_RULES + HUGE_RULES]
            for wishes in sets:
                some = any(set(wishes) <= had for had in granted)
                self.assertIs(can_have(list(wishes), houses, falls), some, (wishes, houses, falls))


class ErrorsTest(unittest.TestCase):
    def test_rules_houses_and_flags(self):
        rule = (("late",), None)
        for call in (grants, breaking_weaving):
            for value in WRONG_RULES:
                check_error(self, InvalidRule, call, (value, 2, False, "full"))
            for value in WRONG_HOUSES:
                check_error(self, InvalidHouses, call, (rule, value, False, "full"))
            for value in NO_FLAGS:
                check_error(self, InvalidFlag, call, (rule, 2, value, "full"))
            for value in NO_WISHES:
                check_error(self, InvalidWish, call, (rule, 2, False, value))

    def test_wishes(self):
        wrong = NO_LISTS + [tuple(WISHES), {"early"}, ["early", "early"], ["early", "full", "early"], WISHES * 2]
        wrong += [[value] for value in NO_WISHES] + [["full", value] for value in NO_WISHES] + [[Odd(), Odd()]]
        for call in (can_have, rule_for):
            for value in wrong:
                check_error(self, InvalidWishes, call, (value, 2, False))
            for value in WRONG_HOUSES:
                check_error(self, InvalidHouses, call, (["full"], value, False))
            for value in NO_FLAGS:
                check_error(self, InvalidFlag, call, (["full"], 2, value))
            call([], 1, True)
            call(WISHES, 20, False)

    def test_the_first_wrong_argument_tells(self):
        wrongs = [((("late",), 0), InvalidRule, {}), (True, InvalidHouses, {}), (1, InvalidFlag, {}),
                  ("none", InvalidWish, {})]
        for call in (grants, breaking_weaving):
            check_first_wrong(self, call, ((("again", 2), 1), 2, False, "full"), wrongs)
            check_first_wrong(self, call, ((("again", 2), 1), 2, True, "free"), wrongs)
        for call in (can_have, rule_for):
            check_first_wrong(self, call, (["full"], 2, False), [(("full",), InvalidWishes, {}), *wrongs[1:3]])
        check_error(self, InvalidWish, breaking_weaving, ((("again", HUGE), 1), 2, False, "fullest"))


if __name__ == "__main__":
    unittest.main()
