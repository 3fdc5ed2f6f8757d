"""Point 5: the errors."""

from onesilent import errors
from onesilent.errors import SilentError
from tests.cases import Case
from tests.samples import oddities

PLAIN = (
    "NoInputs", "NoRow", "NoMachine", "NoRest", "NoNumber", "NoLot", "NoChoice", "NoPlan", "HasPlan", "NoBar",
    "NoPattern", "OtherMany", "NoSome", "NoOffers", "NoWord", "NoEvent", "NothingDone", "NoLine", "Empty", "NoText",
)
FIELDS = {
    "BadTask": "part", "NoFunction": "index", "BadEvent": "index", "TooMany": "most", "BadText": "line",
    "NoName": "name",
}


class Errors(Case):
    def test_there_are_just_these(self):
        found = {name for name, value in vars(errors).items() if isinstance(value, type)}
        self.assertEqual(found, {"SilentError", *PLAIN, *FIELDS})

    def test_silent_error_is_a_value_error(self):
        self.assertEqual(SilentError.__bases__, (ValueError,))

    def test_each_is_a_direct_subclass(self):
        for name in (*PLAIN, *FIELDS):
            self.assertEqual(getattr(errors, name).__bases__, (SilentError,), name)

    def test_those_without_fields_take_nothing(self):
        for name in PLAIN:
            error = getattr(errors, name)()
            self.assertEqual(vars(error), {}, name)

    def test_a_field_is_kept_whatever_it_is(self):
        for name, field in FIELDS.items():
            for value in (*oddities(), 0, 4000, "lots", SilentError, len):
                error = getattr(errors, name)(value)
                self.assertEqual(list(vars(error)), [field], name)
                self.assertIs(getattr(error, field), value, name)

    def test_a_field_is_taken_by_position_alone_and_once(self):
        for name in FIELDS:
            with self.assertRaises(TypeError):
                getattr(errors, name)()
            with self.assertRaises(TypeError):
                getattr(errors, name)(1, 2)

    def test_they_are_raised_and_caught(self):
        for name in PLAIN:
            with self.assertRaises(SilentError):
                raise getattr(errors, name)()
