"""The errors that many functions name for an argument."""

from onesilent.errors import NoMachine, NoNumber, NoPattern, NoRow
from onesilent.values import MOST_ROUNDS, is_integers, is_number, is_turn


def check_number(thing, least, most):
    """Raise NoNumber unless a thing is an integer within these bounds."""
    if not is_number(thing, least, most):
        raise NoNumber()


def check_row(thing, least, most):
    """Raise NoRow unless a thing is a row for so many machines as these bounds let."""
    if not is_integers(thing, least, most):
        raise NoRow()


def check_machine(thing, many):
    """Raise NoMachine unless a thing is the number of one of so many machines."""
    if not is_number(thing, 0, many - 1):
        raise NoMachine()


def is_pattern_of(thing, many, least, most):
    """Tell whether a thing is a pattern of so many machines and of so many rounds as these bounds let."""
    if not isinstance(thing, tuple) or not least <= len(thing) <= most:
        return False
    return all([is_turn(turn, many) for turn in thing])


def is_any_pattern(thing):
    """Tell whether a thing is a pattern of any number of machines and of any number of rounds."""
    return any([is_pattern_of(thing, many, 0, MOST_ROUNDS) for many in (3, 4, 5)])


def check_pattern(thing, many, least, most):
    """Raise NoPattern unless a thing is a pattern of so many machines and of so many rounds as these bounds let."""
    if not is_pattern_of(thing, many, least, most):
        raise NoPattern()
