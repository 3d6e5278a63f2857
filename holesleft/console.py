"""A console: commands and answers as texts, over a live desk."""

from holesleft.checks import check_houses
from holesleft.desks import ReadingBudgetDesk, ReadingDesk
from holesleft.errors import InvalidCommand
from holesleft.risks import risk_of
from holesleft.texts import format_weaving, is_number_word, parse_scheme


def _desk_of(words):
    """Return the new desk that the words of a command ask for."""
    if len(words) < 3 or not is_number_word(words[1]):
        raise InvalidCommand("desk: a number of houses and a scheme are needed")
    houses = int(words[1])
    check_houses(houses)
    if len(words) > 3 and is_number_word(words[2]):
        return ReadingBudgetDesk(parse_scheme(" ".join(words[3:])), houses, int(words[2]))
    return ReadingDesk(parse_scheme(" ".join(words[2:])), houses)


def _told_number(number):
    return "none" if number is None else str(number)


def _told_words(words):
    return " ".join(words) if words else "none"


def _told_numbers(numbers):
    return _told_words([str(number) for number in numbers])


def _told_stretches(stretches):
    return _told_words([str(first) if first == last else f"{first}-{last}" for first, last in stretches])


class Console:
    """Runs commands on its desk, at first on none."""

    def __init__(self):
        self._desk = None

    def execute(self, command):
        """Run a command and return its answer."""
        words = command.split(" ") if isinstance(command, str) else []
        if len(words) == 0 or "" in words:
            raise InvalidCommand("a command is needed, its words parted by single spaces")
        if words[0] == "desk":
            self._desk = _desk_of(words)
            return "ok"
        if self._desk is None:
            raise InvalidCommand("a desk is needed first")
        if len(words) == 1:
            return self._answer(words[0])
        if len(words) == 2 and is_number_word(words[1]):
            return self._answer_for_house(words[0], int(words[1]))
        raise InvalidCommand("there is no such command")

    def _answer_for_house(self, letter, house):
        """Run a command that names a house."""
        if letter == "t":
            return _told_number(self._desk.take(house))
        if letter == "e":
            return _told_number(self._desk.end(house))
        if letter == "f":
            self._desk.fail(house)
        elif letter == "x":
            self._desk.fall(house)
        else:
            raise InvalidCommand("there is no such command")
        return "ok"

    def _answer(self, word):
        """Run a command of one word."""
        desk = self._desk
        if word == "undo":
            desk.undo()
            return "ok"
        if word == "book":
            return _told_numbers(desk.book)
        if word == "look":
            return _told_numbers(desk.look())
        if word == "missed":
            return _told_numbers(desk.missed)
        if word == "holes":
            return _told_stretches(desk.holes)
        if word == "lost":
            return _told_stretches(desk.lost)
        if word == "mark":
            return str(desk.mark)
        if word == "weaving":
            return format_weaving(desk.houses, desk.weaving) or "none"
        if word == "risk":
            return str(risk_of(desk.scheme, desk.houses, desk.weaving))
        raise InvalidCommand("there is no such command")
