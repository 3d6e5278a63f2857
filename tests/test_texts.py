"""DOC.md [2], [3] and [33]: holesleft.texts."""

import itertools
import random
import re
import unittest

from holesleft import texts
from holesleft.errors import InvalidHouses, InvalidNumbers, InvalidScheme, InvalidText, InvalidWeaving
from holesleft.schemes import is_weaving
from holesleft.texts import format_numbers, format_scheme, format_weaving, parse_numbers, parse_scheme, parse_weaving
from tests.calls import check_error, check_first_wrong, check_integer, check_new_list, check_parameters
from tests.model import HUGE, SCHEMES, all_weavings, followers, mixed_weaving
from tests.wrong import NO_EVENTS, NO_LISTS, NO_NUMBERS, NO_NUMBER_LISTS, NO_NUMBER_WORDS, NO_STRINGS, WRONG_HOUSES
from tests.wrong import WRONG_SCHEMES

NUMBER = re.compile(r"0|[1-9][0-9]{0,29}")
WORDS = {"take": "t", "end": "e", "fail": "f", "fall": "x"}
NAMES = {
    format_scheme: ["scheme"],
    format_numbers: ["numbers"],
    format_weaving: ["houses", "weaving"],
    parse_scheme: ["text"],
    parse_numbers: ["text"],
    parse_weaving: ["houses", "text"],
}
SCHEME_TEXTS = {("late",): "late", ("lost", 1): "lost 1", ("lost", HUGE): "lost " + "9" * 30, ("again", 12): "again 12"}
SCHEME_TEXTS.update({("pool", order): "pool " + order for order in ["least", "greatest", "oldest", "newest"]})


def changes(words, others):
    """Return all lists of words with one change: one put in, left out, exchanged, doubled or with a space at it."""
    rows = []
    for index in range(len(words) + 1):
        rows.extend(words[:index] + [other] + words[index:] for other in others + [""])
    for index, word in enumerate(words):
        rows.append(words[:index] + words[index + 1:])
        rows.append(words[:index] + [word, word] + words[index + 1:])
        near = [other + word for other in "0+-1 "] + [word + other for other in "0 x\n"]
        near += [word[1:], word[:-1], word.upper()]
        rows.extend(words[:index] + [other] + words[index + 1:] for other in near + others)
    return rows


def told_scheme(text):
    """Return the scheme of a text, or the index of the first wrong word."""
    words = text.split(" ")
    if words[0] not in ("late", "lost", "again", "pool"):
        return 0
    if words[0] == "late":
        return ("late",) if len(words) == 1 else 1
    if len(words) == 1:
        return 1
    if words[0] == "pool":
        fits = words[1] in ("least", "greatest", "oldest", "newest")
    else:
        fits = NUMBER.fullmatch(words[1]) is not None and words[1] != "0"
    if not fits:
        return 1
    if len(words) > 2:
        return 2
    return (words[0], words[1] if words[0] == "pool" else int(words[1]))


def told_numbers(text):
    words = text.split(" ") if text else []
    for index, word in enumerate(words):
        if NUMBER.fullmatch(word) is None or index == 200:
            return index
    return [int(word) for word in words]


def told_weaving(houses, text):
    words = text.split(" ") if text else []
    weaving = []
    for index, word in enumerate(words):
        events = {f"{WORDS[name]}{house}": (name, house) for name, house in followers(houses, weaving)}
        if word not in events or index == 800:
            return index
        weaving.append(events[word])
    return weaving


class TextsTest(unittest.TestCase):
    def check(self, call, arguments, told):
        """Check that a text is read as told, where an index tells that it is wrong."""
        if isinstance(told, int):
            check_error(self, InvalidText, call, arguments, word=told)
        else:
            self.assertEqual(call(*arguments), told, arguments)


class InterfaceTest(TextsTest):
    def test_parameters(self):
        for call, names in NAMES.items():
            check_parameters(self, call, names)
            self.assertIs(getattr(texts, call.__name__), call)
            self.assertEqual(call.__module__, "holesleft.texts")

    def test_arguments_stay_and_values_are_new(self):
        check_integer(self, format_scheme, {"scheme": ("again", 2)}, "again 2")
        check_integer(self, format_numbers, {"numbers": [2, 0]}, "2 0")
        check_integer(self, format_weaving, {"houses": 2, "weaving": [("take", 1)]}, "t1")
        check_integer(self, parse_scheme, {"text": "lost 7"}, ("lost", 7))
        for text in ["", "2 0 1"]:
            check_new_list(self, parse_numbers, (text,), {"text": text})
        for text in ["", "t0 t1 x0"]:
            check_new_list(self, parse_weaving, (2, text), {"houses": 2, "text": text})


class SchemeTest(TextsTest):
    def test_there_and_back(self):
        for scheme, text in SCHEME_TEXTS.items():
            self.assertEqual(format_scheme(scheme), text)
            self.assertEqual(parse_scheme(text), scheme)
        for scheme in SCHEMES:
            text = format_scheme(scheme)
            self.assertIs(text.__class__, str)
            self.assertEqual(parse_scheme(text), scheme)
            self.assertIs(parse_scheme(text).__class__, tuple)

    def test_one_change(self):
        others = ["late", "lost", "again", "pool", "least", "newest", "0", "1", "2", "Late", "last"]
        for text in SCHEME_TEXTS.values():
            for words in changes(text.split(" "), others):
                self.check(parse_scheme, (" ".join(words),), told_scheme(" ".join(words)))

    def test_words(self):
        rows = {"": 0, " ": 0, "late ": 1, " late": 0, "late late": 1, "late 1": 1, "lost": 1, "again": 1, "pool": 1,
                "lost ": 1, "lost  1": 1, "lost 1 ": 2, "lost 1 2": 2, "lost 0": 1, "again 0": 1, "again least": 1,
                "pool 1": 1, "pool last": 1, "pool least 1": 2, "pool least ": 2, "pools": 0, "LATE": 0, "late\n": 0,
                "lost 1\n": 1, "lost\n1": 0, "1": 0, "1 lost": 0, "lost x y": 1, "x y z": 0, "pool Least": 1}
        for text, word in rows.items():
            self.check(parse_scheme, (text,), word)

    def test_numbers(self):
        for kind in ("lost", "again"):
            for word in NO_NUMBER_WORDS + ["0"]:
                self.check(parse_scheme, (f"{kind} {word}",), 1)
            for word in ["1", "9", "10", "9" * 30, "1" + "0" * 29]:
                self.check(parse_scheme, (f"{kind} {word}",), (kind, int(word)))


class NumbersTest(TextsTest):
    def test_there_and_back(self):
        source = random.Random(33)
        rows = [[], [0], [0, 0], [10, 1, 100], [HUGE, 0], list(range(200)), [HUGE] * 130]
        rows += [[source.randrange(10 ** source.randint(1, 30)) for _ in range(many)] for many in range(100)]
        for numbers in rows:
            text = format_numbers(numbers)
            self.assertEqual(text, " ".join(str(number) for number in numbers))
            self.assertEqual(parse_numbers(text), numbers)

    def test_one_change(self):
        for text in ["0", "7", "2 0 1", "10 0 9 " + "9" * 30]:
            for words in changes(text.split(" "), ["5", "00", "x", "t0", "-"]):
                self.check(parse_numbers, (" ".join(words),), told_numbers(" ".join(words)))

    def test_wrong_words(self):
        for word in NO_NUMBER_WORDS:
            self.check(parse_numbers, (f"4 {word} x",), 1)
            if word:
                self.check(parse_numbers, (word,), 0)
        rows = {"": [], " ": 0, "  ": 0, " 1": 0, "1 ": 1, "1  2": 1, "1\n2": 0, "1\n": 0}
        for text, told in rows.items():
            self.check(parse_numbers, (text,), told)

    def test_200_numbers_and_201(self):
        self.check(parse_numbers, (" ".join(["0"] * 200),), [0] * 200)
        self.check(parse_numbers, (" ".join(["0"] * 201),), 200)
        self.check(parse_numbers, (" ".join(["0"] * 300 + ["x"]),), 200)
        self.check(parse_numbers, (" ".join(["0"] * 199 + ["x"] + ["0"] * 5),), 199)
        self.check(parse_numbers, (" ".join(["0"] * 200 + [""]),), 200)


class WeavingTest(TextsTest):
    def test_there_and_back(self):
        for weaving in all_weavings(2, 4):
            text = format_weaving(2, weaving)
            self.assertEqual(text, " ".join(f"{WORDS[word]}{house}" for word, house in weaving))
            self.assertEqual(parse_weaving(2, text), weaving)
        for houses in range(1, 21):
            for length in (1, 10, 300, 800):
                weaving = mixed_weaving(houses, length, houses + length)
                text = format_weaving(houses, weaving)
                self.assertEqual(parse_weaving(houses, text), weaving)
                self.assertTrue(is_weaving(houses, parse_weaving(houses, text)))

    def test_one_change(self):
        others = ["t0", "e1", "f0", "x1", "t2", "x2", "T0", "t", "0", "t00", "t01", "take", "t-1", "t1" + "0" * 30]
        for text in ["t0", "t0 t1 e1 f0 x1", "t1 x1 t1 e1", "t0 e0 t0 f0 t0 x0"]:
            for houses in (2, 3):
                for words in changes(text.split(" "), others):
                    changed = " ".join(words)
                    self.check(parse_weaving, (houses, changed), told_weaving(houses, changed))

    def test_all_short_texts(self):
        words = ["t0", "t1", "e0", "e1", "f0", "x1", "t2", ""]
        for many in range(4):
            for row in itertools.product(words, repeat=many):
                text = " ".join(row)
                self.check(parse_weaving, (2, text), told_weaving(2, text))

    def test_wrong_words(self):
        for word in NO_NUMBER_WORDS:
            for letter in ("t", "e", "f", "x"):
                self.check(parse_weaving, (20, f"x0 {letter}{word}"), 1)
        for letter in ["a", "T", "E", "F", "X", "u", "take", "te", "tt", "-", "0", "\n", "\u0442"]:
            self.check(parse_weaving, (20, f"x0 {letter}0 x0"), 1)

    def test_houses(self):
        self.check(parse_weaving, (20, "t19 e19"), [("take", 19), ("end", 19)])
        self.check(parse_weaving, (20, "t19 e19 t20"), 2)
        self.check(parse_weaving, (1, "t0 t1"), 1)
        self.check(parse_weaving, (2, "x1 x0 x2"), 2)

    def test_800_events_and_801(self):
        self.check(parse_weaving, (1, " ".join(["t0", "e0"] * 400)), [("take", 0), ("end", 0)] * 400)
        self.check(parse_weaving, (1, " ".join(["t0", "e0"] * 400 + ["t0"])), 800)
        self.check(parse_weaving, (1, " ".join(["t0", "e0"] * 400 + ["e0", "q"])), 800)
        self.check(parse_weaving, (1, " ".join(["x0"] * 799 + ["e0", "x0"])), 799)
        self.check(parse_weaving, (20, " ".join(["x7"] * 1100)), 800)


class ErrorsTest(TextsTest):
    def test_values_that_are_no_strings(self):
        for value in NO_STRINGS:
            check_error(self, InvalidText, parse_scheme, (value,), word=None)
            check_error(self, InvalidText, parse_numbers, (value,), word=None)
            check_error(self, InvalidText, parse_weaving, (2, value), word=None)

    def test_values_that_cannot_be_written(self):
        for value in WRONG_SCHEMES:
            check_error(self, InvalidScheme, format_scheme, (value,))
        for value in NO_NUMBER_LISTS:
            check_error(self, InvalidNumbers, format_numbers, (value,), index=None)
        for value in NO_NUMBERS:
            check_error(self, InvalidNumbers, format_numbers, ([0, value, value],), index=1)
        for value in NO_LISTS + [[("fall", 0)] * 801]:
            check_error(self, InvalidWeaving, format_weaving, (2, value), index=None)
        for value in NO_EVENTS + [("end", 0), ("fail", 0)]:
            check_error(self, InvalidWeaving, format_weaving, (2, [("fall", 0), value]), index=1)

    def test_wrong_houses(self):
        for value in WRONG_HOUSES:
            check_error(self, InvalidHouses, format_weaving, (value, []))
            check_error(self, InvalidHouses, parse_weaving, (value, ""))

    def test_the_first_wrong_argument_tells(self):
        houses = (0, InvalidHouses, {})
        check_first_wrong(self, format_weaving, (2, []), [houses, (None, InvalidWeaving, {"index": None})])
        check_first_wrong(self, parse_weaving, (2, ""), [houses, (None, InvalidText, {"word": None})])
        check_first_wrong(self, parse_weaving, (2, "x0"), [houses, ("x0 e0", InvalidText, {"word": 1})])


if __name__ == "__main__":
    unittest.main()
