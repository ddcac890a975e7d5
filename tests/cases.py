"""What the tests of several modules ask in the same way."""

import copy
import inspect

from meltlibrary.errors import LibraryError


def raised(function, arguments):
    """The class of the error that a call raises, and its fields; None if it raises none."""
    try:
        function(*arguments)
    except LibraryError as error:
        return type(error), vars(error)
    return None


def is_plain(value):
    """Whether a value is of the kinds that answers are made of: no list, no set, no other class."""
    if type(value) is tuple:
        return all(is_plain(item) for item in value)
    return value is None or type(value) in (int, bool, str)


class CallChecks:
    """Checks of whole functions, for a unittest.TestCase to take over."""

    def check_answer(self, function, arguments, wanted):
        """The answer, its kind, the same answer again, and that no argument is modified."""
        before = copy.deepcopy(arguments)
        first = function(*arguments)
        self.assertEqual(first, wanted, (function.__name__, arguments))
        self.assertIs(type(first), type(wanted), (function.__name__, arguments))
        self.assertTrue(is_plain(first), (function.__name__, first))
        self.assertEqual(repr(function(*arguments)), repr(first))
        self.assertEqual(repr(arguments), repr(before))

    def check_error(self, function, arguments, kind, fields):
        """The error with its fields, the same again, and that no argument is modified."""
        before = copy.deepcopy(arguments)
        told = (function.__name__, arguments)
        self.assertEqual(raised(function, arguments), (kind, fields), told)
        self.assertEqual(raised(function, arguments), (kind, fields), told)
        self.assertEqual(repr(arguments), repr(before))

    def check_wrong(self, function, good, wrong):
        """Each wrong value alone in its place, and each pair of places with two wrong ones.

        good is a tuple of allowed arguments, wrong has a list of errors for each place.
        """
        for place, errors in enumerate(wrong):
            for value, kind, fields in errors:
                arguments = good[:place] + (value,) + good[place + 1:]
                self.check_error(function, arguments, kind, fields)
        for left in range(len(good)):
            for right in range(left + 1, len(good)):
                self.check_leftmost(function, good, wrong, left, right)

    def check_leftmost(self, function, good, wrong, left, right):
        """With wrong values in two places the error is that of the left one."""
        for value, kind, fields in wrong[left]:
            for other in [row[0] for row in wrong[right]][::5]:
                arguments = list(good)
                arguments[left] = value
                arguments[right] = other
                self.assertEqual(raised(function, arguments), (kind, fields), (function.__name__, arguments))

    def check_interface(self, module, listed):
        """Each listed function is defined in the module's file, with these arguments by these names."""
        for name, parameters in listed.items():
            function = getattr(module, name)
            self.assertTrue(inspect.isfunction(function), name)
            self.assertEqual(function.__module__, module.__name__, name)
            self.assertEqual(list(inspect.signature(function).parameters), parameters.split(), name)
