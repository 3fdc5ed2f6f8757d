"""Tasks: which rows of answers are let for which rows of inputs; and the rests of rows."""

from onesilent.errors import BadTask, NoInputs, NoMachine, NoNumber, NoRest, NoRow
from onesilent.values import is_ascending, is_integer, is_number, is_rest, is_row, without

MOST_ROWS = 60
MOST_NUMBER = 9999


class Task:
    """A task for so many machines: pairs of inputs and the lot of the answers that are let for them."""

    def __init__(self, many, lots):
        if not is_number(many, 3, 5):
            raise BadTask("many")
        if not isinstance(lots, tuple) or not 1 <= len(lots) <= MOST_ROWS:
            raise BadTask("lots")
        for number, pair in enumerate(lots):
            if not _is_pair(many, pair) or (number > 0 and pair[0] <= lots[number - 1][0]):
                raise BadTask(number)
        self.many = many
        self.lots = lots

    def __eq__(self, other):
        return isinstance(other, Task) and self.many == other.many and self.lots == other.lots


def made_task(many, lots):
    """Make a task of lots that are right but perhaps beyond the bounds within which a task is constructed."""
    task = Task(3, (((0, 0, 0), ((0, 0, 0),)),))
    task.many = many
    task.lots = lots
    return task


def _is_pair(many, thing):
    """Tell whether a thing is a pair of inputs and their lot, within the bounds of a task that is constructed."""
    if not isinstance(thing, tuple) or len(thing) != 2:
        return False
    inputs, lot = thing
    if not _is_task_row(many, inputs) or not isinstance(lot, tuple) or not 1 <= len(lot) <= MOST_ROWS:
        return False
    return all([_is_task_row(many, row) for row in lot]) and is_ascending(lot)


def _is_task_row(many, thing):
    """Tell whether a thing is a row within the bounds of a task that is constructed."""
    return isinstance(thing, tuple) and len(thing) == many and all([is_number(item, 0, MOST_NUMBER) for item in thing])


def inputs_of(task):
    """List the inputs of a task, ascending."""
    return [inputs for inputs, _ in task.lots]


def lot_of(task, inputs):
    """Tell the lot of the answers that are let for these inputs."""
    # A flag equals 0 or 1, so a row is judged before it is compared.
    if is_row(inputs):
        for each, lot in task.lots:
            if each == inputs:
                return lot
    raise NoInputs()


def rest_of(row, i):
    """Tell what a row tells of the machines without i."""
    if not is_row(row):
        raise NoRow()
    if not is_number(i, 0, len(row) - 1):
        raise NoMachine()
    return without(row, i)


def put_in(rest, value):
    """Tell the row that has this value at the place that the rest leaves out."""
    if not is_rest(rest, 3, 5):
        raise NoRest()
    if not is_integer(value):
        raise NoNumber()
    i, others = rest
    return others[:i] + (value,) + others[i:]


def rests(task):
    """List the rests of all inputs of a task, for all machines, ascending."""
    return sorted({without(inputs, i) for inputs, _ in task.lots for i in range(task.many)})


def completing(task, rest):
    """List the inputs of a task that have this rest, ascending."""
    if not is_rest(rest, task.many, task.many):
        raise NoRest()
    found = [inputs for inputs, _ in task.lots if without(inputs, rest[0]) == rest]
    if not found:
        raise NoRest()
    return found
