"""Foes: how any machines are found out for a task that has no plan."""

from onesilent.chain import chain_at
from onesilent.checks import check_number, is_pattern_of
from onesilent.errors import HasPlan
from onesilent.folks import answers
from onesilent.lots import parts
from onesilent.patterns import plain, shut_out
from onesilent.plans import plan
from onesilent.values import MOST_ROUNDS, is_row, power
from onesilent.webs import Web


def found_wrong(task, folk):
    """Tell inputs and a pattern by which a folk's answers are not let, for a task without a plan."""
    if plan(task) is not None:
        raise HasPlan()
    homes = [_homes(lot) for _, lot in task.lots]
    first = plain(task.many, folk.rounds)
    choice = []
    for home, (inputs, _) in zip(homes, task.lots):
        told = answers(folk, inputs, first)
        if told not in home:
            return (inputs, first)
        choice.append(home[told])
    # No choice is right, so the answers of the others without some machine fit not all that is chosen.
    web = Web(task)
    rest = [each for each in web.rests if web.cover(choice, each) is None][0]
    last = shut_out(task.many, folk.rounds, rest[0])
    for k in web.ends[rest]:
        inputs = task.lots[k][0]
        told = answers(folk, inputs, last)
        if told not in homes[k]:
            return (inputs, last)
        if homes[k][told] != choice[k]:
            return _halved(folk, inputs, homes[k], choice[k], last)
    return None


def _homes(lot):
    """Tell for each row of a lot the number of its part."""
    return {row: number for number, part in enumerate(parts(lot)) for row in part}


def _halved(folk, inputs, home, part, last):
    """Tell the inputs and a pattern by which the answers are not let, between those in this part and those in others.

    The chain leads from the plain pattern, with answers in this part, to the last one, with answers in another one."""
    many = len(inputs)
    first = plain(many, folk.rounds)
    low = 0
    high = power(many + 1, folk.rounds) - 1
    while high - low > 1:
        middle = (low + high) // 2
        pattern = chain_at(many, first, last, middle)
        told = answers(folk, inputs, pattern)
        if told not in home:
            return (inputs, pattern)
        if home[told] == part:
            low = middle
        else:
            high = middle
    return None


def is_wrong(task, folk, thing):
    """Tell whether a thing is a pair of inputs and a pattern by which a folk's answers are not let."""
    if not isinstance(thing, tuple) or len(thing) != 2:
        return False
    inputs, pattern = thing
    if not is_row(inputs) or not is_pattern_of(pattern, task.many, folk.rounds, folk.rounds):
        return False
    for each, lot in task.lots:
        if each == inputs:
            return answers(folk, inputs, pattern) not in lot
    return False


def trials(task, rounds):
    """Tell how many runs are enough to find out a folk of so many rounds."""
    check_number(rounds, 0, MOST_ROUNDS)
    return 2 * len(task.lots) + power(task.many + 1, rounds).bit_length()
