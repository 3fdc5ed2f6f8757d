"""Nets that strangers lead, and whether what is answered so far can become right."""

from onesilent.checks import check_number
from onesilent.errors import BadEvent
from onesilent.tasks import lot_of
from onesilent.values import is_integer

MOST_EVENTS = 5000


def led(net, stranger, most):
    """Tell a copy of the net that a stranger's function led by so many events or fewer."""
    check_number(most, 0, MOST_EVENTS)
    lead = net.copy()
    for number in range(most):
        told = stranger(lead.copy())
        if told is None:
            break
        if not lead.is_event(told):
            raise BadEvent(number)
        lead.event(told)
    return lead


def is_true(task, net, thing):
    """Tell whether a thing is what all machines answer, as far as they do, in some row let for the net's inputs."""
    lot = lot_of(task, net.inputs)
    if not isinstance(thing, tuple) or len(thing) != task.many:
        return False
    if not all([each is None or is_integer(each) for each in thing]):
        return False
    return any([all([said is None or said == due for said, due in zip(thing, row)]) for row in lot])
