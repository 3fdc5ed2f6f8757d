"""What a plan chooses for each inputs, and where it has to end when a machine is left out."""

from onesilent.errors import NoPlan
from onesilent.lots import parts
from onesilent.plans import is_plan
from onesilent.values import without


def chosen_ends(task, plan):
    """List for each inputs a triple of them, their chosen part, and for each machine the rows that complete the cover.

    The cover for a machine is that of the rest without it."""
    if not is_plan(task, plan):
        raise NoPlan()
    choice, told = plan
    found = []
    for number, (inputs, lot) in zip(choice, task.lots):
        part = parts(lot)[number]
        ends = [_completing_rows(part, i, told[without(inputs, i)]) for i in range(task.many)]
        found.append((inputs, part, ends))
    return found


def _completing_rows(part, i, cover):
    """List the rows of a part that have these answers of the others, ascending."""
    return [row for row in part if without(row, i) == (i, cover)]
