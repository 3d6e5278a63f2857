"""Checks that the tests of several modules share."""

import copy
import inspect


def check_error(test, kind, call, arguments, **fields):
    """Check that a call raises an error of just this kind, with these fields, and changes no argument."""
    # Some arguments hold objects of which a copy is not equal to them.
    kept = repr(arguments)
    with test.assertRaises(ValueError) as caught:
        call(*arguments)
    error = caught.exception
    test.assertIs(error.__class__, kind, (call.__name__, arguments))
    test.assertEqual([base.__name__ for base in kind.__mro__[1:3]], ["HolesError", "ValueError"])
    for name, value in fields.items():
        test.assertIs(getattr(error, name).__class__, value.__class__, (call.__name__, arguments))
        test.assertEqual(getattr(error, name), value, (call.__name__, arguments))
    test.assertEqual(repr(arguments), kept)


def check_parameters(test, call, names):
    """Check that a function has just these parameters, which are passed by position or by name."""
    found = inspect.signature(call).parameters.values()
    test.assertEqual([parameter.name for parameter in found], names, call.__name__)
    for parameter in found:
        test.assertIs(parameter.kind, inspect.Parameter.POSITIONAL_OR_KEYWORD)
        test.assertIs(parameter.default, inspect.Parameter.empty)


def check_new_list(test, call, arguments, by_name):
    """Check that a call changes no argument, and that its list is a new one each time, however it is passed."""
    kept = copy.deepcopy(arguments)
    first = call(*arguments)
    second = call(**by_name)
    test.assertIs(first.__class__, list)
    test.assertEqual(first, second)
    test.assertIsNot(first, second)
    for value in arguments:
        test.assertIsNot(first, value)
    first.append("changed")
    first.reverse()
    test.assertEqual(call(*arguments), second)
    test.assertEqual(arguments, kept)
