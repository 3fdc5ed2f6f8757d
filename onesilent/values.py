"""What several files judge values by: integers, rows, rests, lots and patterns; and what they count with."""

MOST_ROUNDS = 30


def is_integer(thing):
    """Tell whether a thing is an integer; a flag is none."""
    return isinstance(thing, int) and not isinstance(thing, bool)


def is_number(thing, least, most):
    """Tell whether a thing is an integer within these bounds."""
    return is_integer(thing) and least <= thing <= most


def is_integers(thing, least, most):
    """Tell whether a thing is a tuple of integers, as many as these bounds let."""
    return isinstance(thing, tuple) and least <= len(thing) <= most and all([is_integer(item) for item in thing])


def is_row(thing):
    """Tell whether a thing is a row of any integers."""
    return is_integers(thing, 3, 5)


def is_rest(thing, least, most):
    """Tell whether a thing is a rest of a row of any integers, for so many machines as these bounds let."""
    if not isinstance(thing, tuple) or len(thing) != 2 or not is_integers(thing[1], least - 1, most - 1):
        return False
    return is_number(thing[0], 0, len(thing[1]))


def is_turn(thing, many):
    """Tell whether a thing is what each machine misses in one round: None, or the number of another one."""
    if not isinstance(thing, tuple) or len(thing) != many:
        return False
    return all([missed is None or _is_other(missed, me, many) for me, missed in enumerate(thing)])


def _is_other(thing, me, many):
    """Tell whether a thing is the number of a machine other than this one."""
    return is_number(thing, 0, many - 1) and thing != me


def is_ascending(things):
    """Tell whether each thing is less than the next one."""
    return all([one < other for one, other in zip(things, things[1:])])


def without(row, i):
    """Tell the rest of a row without its place i, unchecked."""
    return (i, row[:i] + row[i + 1:])


def power(base, times):
    """Tell the base multiplied by itself so many times."""
    worth = 1
    for _ in range(times):
        worth = worth * base
    return worth


def figures_of(number, base, many):
    """List so many figures of a number to a base, the first one worth most."""
    figures = []
    for _ in range(many):
        number, figure = divmod(number, base)
        figures.append(figure)
    return figures[::-1]
