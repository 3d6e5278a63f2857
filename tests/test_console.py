"""DOC.md [2], [3] and [34]: holesleft.console."""

import random
import unittest

from holesleft import console as console_module
from holesleft import errors
from holesleft.console import Console
from holesleft.desks import ReadingBudgetDesk, ReadingDesk
from holesleft.errors import InvalidCommand, InvalidHouse, InvalidHouses, InvalidScheme, InvalidText
from holesleft.errors import NoDeed, NothingToUndo, OpenDeed, Refused
from holesleft.risks import risk_of
from holesleft.texts import format_scheme, format_weaving
from tests.calls import check_error, check_parameters
from tests.model import HUGE, SCHEMES, SMALL_SCHEMES
from tests.wrong import NO_NUMBER_WORDS, NO_STRINGS

ASKED = ["undo", "book", "look", "missed", "holes", "lost", "mark", "weaving", "risk"]
WITH_HOUSE = {"t": "take", "e": "end", "f": "fail", "x": "fall"}
PLAIN = ["desk 2 again 2", "t 0", "t 1", "e 1"]


def console_behind(*commands):
    console = Console()
    for command in commands:
        console.execute(command)
    return console


def told_numbers(numbers):
    return " ".join(map(str, numbers)) or "none"


def told_stretches(stretches):
    return " ".join(f"{first}-{last}" if first != last else f"{first}" for first, last in stretches) or "none"


def told_answer(desk, command):
    """Return the answer to a command, as read off the desk on which it is called, or the error that is raised."""
    try:
        word, *rest = command.split(" ")
        if word in WITH_HOUSE:
            number = getattr(desk, WITH_HOUSE[word])(int(rest[0]))
            if word in ("f", "x"):
                return "ok"
            return "none" if number is None else str(number)
        if word == "undo":
            desk.undo()
            return "ok"
        if word == "weaving":
            return format_weaving(desk.houses, desk.weaving) or "none"
        if word in ("holes", "lost"):
            return told_stretches(getattr(desk, word))
        if word == "mark":
            return str(desk.mark)
        if word == "risk":
            return str(risk_of(desk.scheme, desk.houses, desk.weaving))
        return told_numbers(desk.look() if word == "look" else getattr(desk, word))
    except errors.HolesError as error:
        return error


class ConsoleTest(unittest.TestCase):
    def state(self, console):
        return [console.execute(word) for word in ["book", "missed", "holes", "lost", "mark", "weaving"]]

    def check_raises(self, console, command, kind, **fields):
        """Check that a command raises an error and changes nothing."""
        kept = self.state(console)
        check_error(self, kind, console.execute, (command,), **fields)
        self.assertEqual(self.state(console), kept)


class InterfaceTest(ConsoleTest):
    def test_parameters(self):
        check_parameters(self, Console, [])
        check_parameters(self, Console.execute, ["self", "command"])
        self.assertIs(console_module.Console, Console)
        self.assertEqual(Console.__module__, "holesleft.console")
        self.assertEqual(Console().execute(command="desk 2 late"), "ok")

    def test_consoles_have_desks_of_their_own(self):
        one, other = console_behind("desk 1 late", "t 0"), console_behind("desk 1 late")
        self.assertEqual([one.execute("weaving"), other.execute("weaving")], ["t0", "none"])


class CommandsTest(ConsoleTest):
    def test_drawn_commands(self):
        for seed, scheme in enumerate(SCHEMES * 2):
            for budget in (None, 0, 3):
                if budget is None or scheme[0] in ("again", "pool"):
                    self.play(scheme, seed % 4 + 1, budget, seed)

    def play(self, scheme, houses, budget, seed):
        source = random.Random(seed)
        text = format_scheme(scheme)
        if budget is None:
            desk = ReadingDesk(scheme, houses)
            console = console_behind(f"desk {houses} {text}")
        else:
            desk = ReadingBudgetDesk(scheme, houses, budget)
            console = console_behind(f"desk {houses} {budget} {text}")
        for _ in range(120):
            letter = source.choice("ttttteeefx")
            command = source.choice([f"{letter} {source.randrange(houses + 1)}"] * 12 + ASKED)
            told = told_answer(desk, command)
            if isinstance(told, str):
                self.assertEqual(console.execute(command), told)
            else:
                self.check_raises(console, command, told.__class__, **vars(told))

    def test_none_where_there_is_nothing(self):
        for scheme in SMALL_SCHEMES:
            console = console_behind("desk 2 " + format_scheme(scheme))
            for word in ("book", "look", "missed", "holes", "lost", "weaving"):
                self.assertEqual(console.execute(word), "none")
            self.assertEqual(console.execute("mark"), "0")

    def test_late_numbers(self):
        console = Console()
        rows = {"desk 2 late": "ok", "t 1": "none", "e 1": "0", "t 0": "none", "f 0": "ok", "x 0": "ok", "book": "0"}
        for command, answer in rows.items():
            self.assertEqual(console.execute(command), answer)

    def test_stretches_of_one_number_and_of_more(self):
        console = console_behind("desk 4 again 3", "t 0", "t 1", "e 1", "t 2", "e 2", "t 2", "e 2", "t 2", "e 2")
        self.assertEqual(console.execute("holes"), "0-2 4-5")
        console.execute("t 1")
        console.execute("e 1")
        self.assertEqual([console.execute("holes"), console.execute("x 1")], ["0-2 5", "ok"])
        self.assertEqual([console.execute(word) for word in ["lost", "x 0", "lost"]], ["5", "ok", "0-2 5"])
        self.assertEqual(console.execute("book"), "3 6 7 8 4")

    def test_undo_and_looks(self):
        console = console_behind(*PLAIN, "look")
        self.assertEqual([console.execute(word) for word in ["e 0", "missed", "undo", "missed", "undo", "look"]],
                         ["0", "0", "ok", "none", "ok", "2"])
        self.assertEqual(console.execute("look"), "none")

    def test_risks(self):
        for scheme in SMALL_SCHEMES:
            console = console_behind("desk 2 " + format_scheme(scheme), "t 0", "t 1")
            if scheme[0] in ("late", "lost"):
                self.check_raises(console, "risk", InvalidScheme)
            else:
                expected = str(risk_of(scheme, 2, [("take", 0), ("take", 1)]))
                self.assertEqual(console.execute("risk"), expected)

    def test_huge_lots(self):
        console = console_behind("desk 2 0 again " + "9" * 30, "t 0")
        self.check_raises(console, "t 1", Refused, amount=HUGE)
        console = console_behind("desk 2 again " + "9" * 30, "t 0", "t 1", "e 1")
        self.assertEqual([console.execute("holes"), console.execute("mark")], [f"0-{HUGE - 1}", "0"])


class NewDeskTest(ConsoleTest):
    def test_with_and_without_a_budget(self):
        for scheme in SCHEMES:
            text = format_scheme(scheme)
            for houses in (1, 2, 20):
                console = console_behind(f"desk {houses} {text}")
                for house in range(houses):
                    console.execute(f"t {house}")
                self.check_raises(console, f"t {houses}", InvalidHouse)
                if scheme[0] in ("again", "pool"):
                    for budget in (0, 1, 5, "9" * 30):
                        console = console_behind(f"desk {houses} {budget} {text}", "t 0")
                        if houses > 1 and budget == 0:
                            amount = scheme[1] if scheme[0] == "again" else 1
                            self.check_raises(console, "t 1", Refused, amount=amount)

    def test_a_new_desk_takes_the_place_of_the_old_one(self):
        console = console_behind(*PLAIN, "look")
        self.assertEqual(console.execute("desk 3 1 pool newest"), "ok")
        self.assertEqual(self.state(console), ["none", "none", "none", "none", "0", "none"])
        self.check_raises(console, "undo", NothingToUndo)

    def test_texts(self):
        rows = {
            "desk 2 lost": 1, "desk 2 late late": 1, "desk 2 late 5": 1, "desk 2 pool last": 1, "desk 2 again 0": 1,
            "desk 2 again 2 2": 2, "desk 2 x": 0, "desk 2 desk": 0, "desk 2 again 02": 1,
            # One word that is a number is no budget, since no word stands behind it.
            "desk 2 5": 0, "desk 2 0": 0, "desk 2 " + "9" * 30: 0,
            "desk 2 5 5": 0, "desk 2 5 5 late": 0, "desk 2 5 lost": 1, "desk 2 5 again": 1, "desk 2 5 again 2 2": 2,
            "desk 2 5 pool least late": 2, "desk 2 05 again 2": 0, "desk 2 -5 again 2": 0, "desk 2 x again 2": 0,
            "desk 2 " + "1" * 31 + " again 2": 0, "desk 2 again 5 again 2": 2, "desk 20 5 x": 0, "desk 1 5 late 5": 1,
        }
        console = console_behind(*PLAIN)
        for command, word in rows.items():
            self.check_raises(console, command, InvalidText, word=word)
            check_error(self, InvalidText, Console().execute, (command,), word=word)

    def test_houses(self):
        console = console_behind(*PLAIN)
        for houses in ("0", "21", "22", "100", "9" * 30):
            for text in ["late", "5 again 2", "x", "5", "5 late", "5 5"]:
                self.check_raises(console, f"desk {houses} {text}", InvalidHouses)

    def test_schemes_without_budgets(self):
        console = console_behind(*PLAIN)
        for text in ["late", "lost 1", "lost 7"]:
            for budget in ("0", "1", "9" * 30):
                self.check_raises(console, f"desk 2 {budget} {text}", InvalidScheme)
                self.check_raises(console, f"desk 0 {budget} {text}", InvalidHouses)
        self.check_raises(console, "desk 2 5 late x", InvalidText, word=1)

    def test_no_commands(self):
        console = console_behind(*PLAIN)
        rows = ["desk", "desk 2", "desk ", "desk  ", "desk 2 ", "desk  2 late", "desk 2  late", "desk 2 late ",
                " desk 2 late", "desk 2 again  2", "desk x late", "desk late 2", "desk late", "Desk 2 late",
                "desk\n2 late", "desks 2 late", "desk 2 5 ", "desk 2 5  late", "desk 2\nlate"]
        for text in ["late", "5 again 2"]:
            rows += [f"desk {word} {text}" for word in NO_NUMBER_WORDS]
        for command in rows:
            self.check_raises(console, command, InvalidCommand)
            check_error(self, InvalidCommand, Console().execute, (command,))


class ErrorsTest(ConsoleTest):
    def test_values_that_are_no_strings(self):
        for value in NO_STRINGS:
            self.check_raises(console_behind(*PLAIN), value, InvalidCommand)
            check_error(self, InvalidCommand, Console().execute, (value,))

    def test_no_desk(self):
        console = Console()
        for command in ASKED + ["t 0", "e 0", "f 0", "x 0", "t 99", "", "t", "nothing"]:
            check_error(self, InvalidCommand, console.execute, (command,))
        # A desk that is not made leaves none.
        wrong = {"desk 0 late": InvalidHouses, "desk 2 x": InvalidText, "desk 2 5 late": InvalidScheme}
        for command, kind in wrong.items():
            check_error(self, kind, console.execute, (command,))
            check_error(self, InvalidCommand, console.execute, ("book",))
        self.assertEqual(console.execute("desk 2 late"), "ok")
        self.assertEqual(console.execute("book"), "none")

    def test_one_change_at_each_word(self):
        console = console_behind(*PLAIN)
        for word in ASKED:
            rows = [word + " ", " " + word, word + " 0", word + " " + word, word[:-1], word + "s", word.upper(),
                    word.capitalize(), word + "\n", "x " + word, word + "  "]
            for command in rows:
                self.check_raises(console, command, InvalidCommand)
        for letter in WITH_HOUSE:
            rows = [letter, letter + " ", letter + "  0", letter + " 0 ", " " + letter + " 0", letter + "0",
                    letter + " 0 0", letter.upper() + " 0", letter + letter + " 0", letter + " x", "0 " + letter, letter + " 0 1",
                    letter + "\n0", letter + " 0\n", WITH_HOUSE[letter] + " 0"]
            for command in rows + [f"{letter} {word}" for word in NO_NUMBER_WORDS]:
                self.check_raises(console, command, InvalidCommand)
        for command in ["", " ", "\n", "0", "quit", "scheme", "houses", "len", "q 0", "- 0"]:
            self.check_raises(console, command, InvalidCommand)

    def test_the_errors_of_the_calls(self):
        console = console_behind("desk 3 0 again 2", "t 0")
        for letter in WITH_HOUSE:
            for house in (3, 4, 20, "9" * 30):
                self.check_raises(console, f"{letter} {house}", InvalidHouse)
        self.check_raises(console, "t 0", OpenDeed)
        self.check_raises(console, "t 1", Refused, amount=2)
        self.check_raises(console, "e 1", NoDeed)
        self.check_raises(console, "f 1", NoDeed)
        self.assertEqual(console.execute("undo"), "ok")
        self.check_raises(console, "undo", NothingToUndo)


if __name__ == "__main__":
    unittest.main()
