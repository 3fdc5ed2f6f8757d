"""Families of tasks, and which of them have a plan."""

from itertools import permutations

from onesilent.checks import check_number
from onesilent.errors import NoNumber, NoWord, TooMany
from onesilent.tasks import made_task
from onesilent.values import is_integer, power

MOST_VALUES = 7
MOST_NAMES = 6
MOST_MADE = 400
WORDS = ("agreement", "few", "near", "leader", "unlike")


def agreement(many, values):
    """Tell the task in which all answer one value that stands in the inputs."""
    _check_family(many, values)
    return _valued(many, values, lambda inputs: [(value,) * many for value in sorted({each for each in inputs})])


def few(many, values, most):
    """Tell the task in which all answer values that stand in the inputs, of which there are at most so many."""
    check_number(many, 3, 5)
    check_number(values, 1, MOST_VALUES)
    check_number(most, 1, many)
    _check_inputs(many, values)

    def let(inputs):
        """List the rows that are let."""
        return [row for row in _rows_of(sorted({each for each in inputs}), many) if len({each for each in row}) <= most]

    return _valued(many, values, let)


def near(many, values):
    """Tell the task in which all answer values within the inputs' bounds that are equal or beside one another."""
    _check_family(many, values)
    return _valued(many, values, lambda inputs: _close_rows(min(inputs), max(inputs), many))


def leader(many):
    """Tell the task in which one machine answers 1, and the others 0."""
    check_number(many, 3, 5)
    return _alone(many, sorted([(0,) * i + (1,) + (0,) * (many - i - 1) for i in range(many)]))


def unlike(many, names):
    """Tell the task in which all answer unlike numbers below a bound."""
    check_number(many, 3, 5)
    check_number(names, many, MOST_NAMES)
    rows = list(permutations(range(names), many))
    if len(rows) > MOST_MADE:
        raise TooMany(MOST_MADE)
    return _alone(many, rows)


def family_planned(word, many, number, most):
    """Tell whether the task of this word has a plan, for numbers of any size."""
    if not isinstance(word, str) or word not in WORDS:
        raise NoWord()
    _check_from(many, 3)
    _check_from(number, 1)
    if word == "few":
        _check_from(most, 1)
        return most > 1 or number == 1
    if word == "unlike":
        return number >= many
    return word != "agreement" or number == 1


def _check_family(many, values):
    """Raise an error unless there is a task of a family for so many machines and values."""
    check_number(many, 3, 5)
    check_number(values, 1, MOST_VALUES)
    _check_inputs(many, values)


def _check_inputs(many, values):
    """Raise TooMany if there are too many rows of so many values to be inputs; as many or fewer of them are let."""
    if power(values, many) > MOST_MADE:
        raise TooMany(MOST_MADE)


def _check_from(thing, least):
    """Raise NoNumber unless a thing is an integer from this one on."""
    if not is_integer(thing) or thing < least:
        raise NoNumber()


def _valued(many, values, let):
    """Tell the task whose inputs are all rows of so many values; let lists the rows for each, ascending."""
    return made_task(many, tuple([(inputs, tuple(let(inputs))) for inputs in _rows_of(list(range(values)), many)]))


def _alone(many, rows):
    """Tell the task whose only inputs are all 0."""
    return made_task(many, (((0,) * many, tuple(rows)),))


def _rows_of(values, many):
    """List all rows of these values, ascending as they are."""
    rows = [()]
    for _ in range(many):
        rows = [row + (value,) for row in rows for value in values]
    return rows


def _close_rows(least, greatest, many):
    """List the rows of values within these bounds, no two of them further apart than 1, ascending."""
    lows = list(range(least, max(least + 1, greatest)))
    return sorted({row for low in lows for row in _rows_of(list(range(low, min(low + 1, greatest) + 1)), many)})
