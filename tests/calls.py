"""Checks that the tests of several modules share."""

import copy
import inspect
import itertools

from holesleft.runs import book_of
from holesleft.schemes import is_weaving


def check_error(test, kind, call, arguments, **fields):
    """Check that a call raises an error of just this kind, with these fields, and changes no argument."""
    # Some arguments hold objects of which a copy is not equal to them.
    kept = repr(arguments)
    with test.assertRaises(ValueError) as caught:
        call(*arguments)
    error = caught.exception
    test.assertIs(error.__class__, kind, (call.__name__, arguments))
    test.assertEqual([base.__name__ for base in kind.__mro__[1:3]], ["HolesError", "ValueError"])
    for name, value in fields.items():
        test.assertIs(getattr(error, name).__class__, value.__class__, (call.__name__, arguments))
        test.assertEqual(getattr(error, name), value, (call.__name__, arguments))
    test.assertEqual(repr(arguments), kept)


def check_parameters(test, call, names):
    """Check that a function has just these parameters, which are passed by position or by name."""
    found = inspect.signature(call).parameters.values()
    test.assertEqual([parameter.name for parameter in found], names, call.__name__)
    for parameter in found:
        test.assertIs(parameter.kind, inspect.Parameter.POSITIONAL_OR_KEYWORD)
        test.assertIs(parameter.default, inspect.Parameter.empty)


def check_new_list(test, call, arguments, by_name):
    """Check that a call changes no argument, and that its list is a new one each time, however it is passed."""
    kept = copy.deepcopy(arguments)
    first = call(*arguments)
    second = call(**by_name)
    test.assertIs(first.__class__, list)
    test.assertEqual(first, second)
    test.assertIsNot(first, second)
    for value in arguments:
        test.assertIsNot(first, value)
    first.append("changed")
    first.reverse()
    test.assertEqual(call(*arguments), second)
    test.assertEqual(arguments, kept)


def check_first_wrong(test, call, rights, wrongs):
    """Check that the first wrong argument tells, for all ways to choose which ones are wrong.

    For each argument, wrongs has a tuple (wrong value, class of the error, its fields).
    """
    for chosen in itertools.product([False, True], repeat=len(rights)):
        if any(chosen):
            arguments = tuple(wrong[0] if bad else right for bad, right, wrong in zip(chosen, rights, wrongs))
            _, kind, fields = wrongs[chosen.index(True)]
            check_error(test, kind, call, arguments, **fields)
    call(*rights)


def check_integer(test, call, by_name, expected):
    """Check that a call, by position and by name, returns this integer, and changes no argument."""
    kept = copy.deepcopy(by_name)
    for found in [call(*by_name.values()), call(**by_name)]:
        test.assertIs(found.__class__, expected.__class__, (call.__name__, by_name))
        test.assertEqual(found, expected, (call.__name__, by_name))
    test.assertEqual(by_name, kept)


def count_words(weaving):
    """Return how many takes, ends, fails and falls a weaving has."""
    return {word: len([event for event in weaving if event[0] == word]) for word in ("take", "end", "fail", "fall")}


def check_settles(test, scheme, houses, weaving, numbers):
    """Check that a returned value is a weaving with this book, and return the counts of its words."""
    test.assertIs(weaving.__class__, list)
    test.assertTrue(is_weaving(houses, weaving), (scheme, houses, numbers))
    test.assertEqual(book_of(scheme, houses, weaving), numbers, (scheme, houses))
    return count_words(weaving)
