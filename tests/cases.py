"""A test case that looks at the errors of the program just as the document tells them."""

from unittest import TestCase

from onesilent.errors import SilentError


class Case(TestCase):
    """Tests of the program."""

    def fails(self, kind, function, *arguments):
        """The call raises an error of just this class; it is returned."""
        try:
            result = function(*arguments)
        except SilentError as error:
            self.assertIs(type(error), kind)
            return error
        self.fail(f"{function.__name__} told {result!r:.200} where {kind.__name__} is due")
