"""Machines of which only some may fall silent: what they can do then, and whose silence is too much."""

from onesilent.checks import is_any_pattern
from onesilent.errors import NoLot, NoPlan
from onesilent.folks import Folk
from onesilent.plans import plan
from onesilent.values import is_ascending, is_integers, is_number, without


def is_sparing(some, thing):
    """Tell whether a thing is a pattern in which nobody misses any other machine than some."""
    if not _is_lot_below(some, 5):
        raise NoLot()
    if not is_any_pattern(thing):
        return False
    return all([missed is None or missed in some for turn in thing for missed in turn])


def sure_plan(task, some):
    """Tell a plan by whole lots for the task if only some machines may be missed, or None."""
    _check_some(task, some)
    sides = _sides(task, some)
    told = {rest: _least_cover(sides[rest]) for rest in sorted(sides)}
    return None if None in list(told.values()) else told


def is_sure_plan(task, some, thing):
    """Tell whether a thing is a plan by whole lots for the task if only some machines may be missed."""
    _check_some(task, some)
    sides = _sides(task, some)
    if not isinstance(thing, dict) or len(thing) != len(sides):
        return False
    return all([rest in thing and _is_cover(task, sides[rest], thing[rest]) for rest in sides])


def sure_bar(task, some):
    """Tell the least rest that has no cover by whole lots if only some machines may be missed, or None."""
    _check_some(task, some)
    sides = _sides(task, some)
    return min([rest for rest in sides if _least_cover(sides[rest]) is None], default=None)


def sure_folk(task, some, told):
    """Tell a folk of two rounds that answers what is let as long as only some machines are missed."""
    if not is_sure_plan(task, some, told):
        raise NoPlan()
    witness = Witness(task, some, told)
    return Folk(2, witness.first, witness.later, witness.said)


def silences(task):
    """List the lots of machines that are too many to be missed, though none of the lesser ones within them is."""
    # Each rest has its cover for itself, so some are too many just if one of them is, unless they are all machines.
    found = [(i,) for i in range(task.many) if sure_bar(task, (i,)) is not None]
    if not found and plan(task) is None:
        return [tuple(range(task.many))]
    return found


class Witness:
    """What the machines of a folk go by if one of them is never missed.

    Behind one round the witness knows all inputs, or all but those of one machine that it missed. Behind the next one
    all know what it knew, so all know alike whether that machine is left out."""

    def __init__(self, task, some, told):
        self.trusted = [i for i in range(task.many) if i not in some][0]
        self.lots = {inputs: lot for inputs, lot in task.lots}
        self.covers = {rest: told[rest] for rest in told}

    def first(self, me, value):
        """Tell the first memory of a machine: its input."""
        return value

    def later(self, me, at, heard):
        """Tell the memory of a machine behind a round: all inputs that it heard, then those of the witness, too."""
        return heard if at == 0 else (heard[self.trusted], heard[me])

    def said(self, me, memory):
        """Tell the answer of a machine."""
        seen, own = memory
        if seen is None:
            return None
        if None not in seen:
            return self.lots[seen][0][me] if seen in self.lots else None
        i = seen.index(None)
        rest = without(seen, i)
        if rest not in self.covers:
            return None
        cover = self.covers[rest]
        if me == i:
            return self._completed(i, seen[:i] + (own[i],) + seen[i + 1:], cover)
        return cover[me if me < i else me - 1]

    def _completed(self, i, inputs, cover):
        """Tell the least answer of the machine that is left out which completes the cover."""
        found = [row[i] for row in self.lots.get(inputs, ()) if without(row, i) == (i, cover)]
        return min(found, default=None)


def _is_lot_below(thing, many):
    """Tell whether a thing is a lot of numbers of machines, perhaps empty."""
    return is_integers(thing, 0, many) and is_ascending(thing) and all([is_number(i, 0, many - 1) for i in thing])


def _check_some(task, some):
    """Raise NoLot unless some are a lot of machines of the task, not all of them."""
    if not _is_lot_below(some, task.many) or len(some) == task.many:
        raise NoLot()


def _sides(task, some):
    """Tell for each rest without one of some what the others can answer by the lot of each of its completing inputs."""
    sides = {}
    for inputs, lot in task.lots:
        for i in some:
            sides.setdefault(without(inputs, i), []).append({without(row, i)[1]: True for row in lot})
    return sides


def _is_cover(task, sides, thing):
    """Tell whether a thing is what the others can answer by all these lots."""
    return is_integers(thing, task.many - 1, task.many - 1) and all([thing in side for side in sides])


def _least_cover(sides):
    """Tell the least that the others can answer by all these lots, or None."""
    return min([cover for cover in sides[0] if all([cover in side for side in sides])], default=None)
