"""Schemes, numbers and weavings as texts."""

from holesleft.checks import MOST_EVENTS, MOST_NUMBERS, check_houses, check_numbers, check_weaving, weaving_fault
from holesleft.errors import InvalidText
from holesleft.schemes import check_scheme, is_scheme

KINDS = ("late", "lost", "again", "pool")
MOST_DIGITS = 30
LETTERS = {"take": "t", "end": "e", "fail": "f", "fall": "x"}
EVENT_WORDS_BY_LETTER = {"t": "take", "e": "end", "f": "fail", "x": "fall"}


def format_scheme(scheme):
    """Return the text of a scheme."""
    check_scheme(scheme)
    return " ".join([str(part) for part in scheme])


def format_numbers(numbers):
    """Return the text of numbers."""
    check_numbers(numbers)
    return " ".join([str(number) for number in numbers])


def format_weaving(houses, weaving):
    """Return the text of a weaving."""
    check_houses(houses)
    check_weaving(houses, weaving)
    return " ".join([f"{LETTERS[word]}{house}" for word, house in weaving])


def is_number_word(word):
    """Tell whether a word is a decimal number without leading zeros, with at most 30 digits."""
    # Signs of other scripts count as digits, too.
    if not word.isascii() or not word.isdigit() or len(word) > MOST_DIGITS:
        return False
    return word == "0" or word[0] != "0"


def _words_of(text):
    """Return the words of a text of numbers or events; the empty string has none."""
    if not isinstance(text, str):
        raise InvalidText(None)
    return [] if text == "" else text.split(" ")


def parse_scheme(text):
    """Return the scheme of a text."""
    words = _words_of(text)
    if not words or words[0] not in KINDS:
        raise InvalidText(0)
    if words == ["late"]:
        return ("late",)
    if len(words) == 1:
        raise InvalidText(1)
    second = int(words[1]) if is_number_word(words[1]) else words[1]
    scheme = (words[0], second)
    if not is_scheme(scheme):
        raise InvalidText(1)
    if len(words) > 2:
        raise InvalidText(2)
    return scheme


def parse_numbers(text):
    """Return the numbers of a text."""
    numbers = []
    for index, word in enumerate(_words_of(text)):
        if index == MOST_NUMBERS or not is_number_word(word):
            raise InvalidText(index)
        numbers.append(int(word))
    return numbers


def parse_weaving(houses, text):
    """Return the weaving of a text."""
    check_houses(houses)
    events = [_event_of(word) for word in _words_of(text)]
    fault = weaving_fault(houses, events[:MOST_EVENTS])
    if fault is None and len(events) > MOST_EVENTS:
        fault = MOST_EVENTS
    if fault is not None:
        raise InvalidText(fault)
    return events


def _event_of(word):
    """Return the event that a word stands for, if it has the form of one, otherwise None."""
    letter = word[:1]
    if letter not in EVENT_WORDS_BY_LETTER or not is_number_word(word[1:]):
        return None
    return (EVENT_WORDS_BY_LETTER[letter], int(word[1:]))
