"""Tasks put together: side by side, one behind another, with fewer inputs, and with more rows."""

from onesilent.ends import chosen_ends
from onesilent.errors import NoInputs, NoOffers, NoSome, OtherMany, TooMany
from onesilent.folks import Folk, answer_of
from onesilent.lots import parts
from onesilent.tasks import MOST_NUMBER, made_task
from onesilent.values import MOST_ROUNDS, is_ascending, is_integers, is_row

MOST_TOGETHER = 400
MOST_OFFERS = 12


def beside(one, other):
    """Tell the task to do two tasks at once."""
    _check_beside(one, other)
    lots = [(_joined(inputs, twin), _joined_lot(lot, rows)) for inputs, lot in one.lots for twin, rows in other.lots]
    return made_task(one.many, tuple(sorted(lots)))


def beside_plan(one, other, first, later):
    """Tell a plan for two tasks at once, of a plan for each."""
    _check_beside(one, other)
    starts = [(inputs, part[0]) for inputs, part, _ in chosen_ends(one, first)]
    twins = [(inputs, part[0]) for inputs, part, _ in chosen_ends(other, later)]
    # The parts of the lots together are those of both, each with each.
    rows = {_joined(inputs, twin): _joined(row, two) for inputs, row in starts for twin, two in twins}
    choice = [_place_among(rows[inputs], parts(lot)) for inputs, lot in beside(one, other).lots]
    told = {}
    for i, others in sorted(first[1]):
        for j, twin in sorted(later[1]):
            if i == j:
                told[(i, _joined(others, twin))] = _joined(first[1][(i, others)], later[1][(i, twin)])
    return (tuple(choice), told)


def behind(one, other):
    """Tell the task to do one task, and then the other one with its answers for inputs."""
    _check_many(one, other)
    lots = {inputs: lot for inputs, lot in other.lots}
    if not all([row in lots for _, lot in one.lots for row in lot]):
        raise NoInputs()
    found = [(inputs, tuple(sorted({row for each in lot for row in lots[each]}))) for inputs, lot in one.lots]
    if max([len(lot) for _, lot in found]) > MOST_TOGETHER:
        raise TooMany(MOST_TOGETHER)
    return made_task(one.many, tuple(found))


def folk_behind(first, later):
    """Tell the folk that does all rounds of one folk, and then those of another one with its answers for inputs."""
    if first.rounds + later.rounds > MOST_ROUNDS:
        raise TooMany(MOST_ROUNDS)
    relay = Relay(first, later)
    return Folk(first.rounds + later.rounds, relay.begun, relay.stepped, relay.answered)


def fewer(task, inputs):
    """Tell the task with just these inputs."""
    if not isinstance(inputs, tuple) or not inputs or not all([is_row(each) for each in inputs]):
        raise NoSome()
    lots = {each: lot for each, lot in task.lots}
    if not all([each in lots for each in inputs]) or not is_ascending(inputs):
        raise NoSome()
    return made_task(task.many, tuple([(each, lots[each]) for each in inputs]))


def wider(task, offers):
    """Tell the task with more rows let."""
    if not are_offers(task, offers):
        raise NoOffers()
    more = {}
    for inputs, row in offers:
        more.setdefault(inputs, []).append(row)
    lots = [(inputs, tuple(sorted(list(lot) + more.get(inputs, [])))) for inputs, lot in task.lots]
    return made_task(task.many, tuple(lots))


def are_offers(task, thing):
    """Tell whether a thing is a lot of few pairs of inputs of the task and a row that is not let for them yet."""
    if not isinstance(thing, tuple) or len(thing) > MOST_OFFERS:
        return False
    lots = {inputs: lot for inputs, lot in task.lots}
    return all([_is_offer(task.many, lots, pair) for pair in thing]) and is_ascending(thing)


class Relay:
    """Two folks, the later one going on with what the first one answers."""

    def __init__(self, first, later):
        self.front = first
        self.rear = later

    def begun(self, me, value):
        """Tell the first memory of a machine."""
        memory = self.front.begin(me, value)
        return self._handed(me, memory) if self.front.rounds == 0 else memory

    def stepped(self, me, at, heard):
        """Tell the memory of a machine behind a round."""
        done = at - self.front.rounds
        if done >= 0:
            return self.rear.step(me, done, heard)
        memory = self.front.step(me, at, heard)
        return self._handed(me, memory) if done == -1 else memory

    def answered(self, me, memory):
        """Tell the answer of a machine."""
        return self.rear.answer(me, memory)

    def _handed(self, me, memory):
        """Tell the first memory of a machine of the later folk, this being its last one of the first folk."""
        said = answer_of(self.front, me, memory)
        return self.rear.begin(me, 0 if said is None else said)


def _check_many(one, other):
    """Raise OtherMany unless two tasks are of as many machines."""
    if one.many != other.many:
        raise OtherMany()


def _check_beside(one, other):
    """Raise an error if two tasks cannot be put side by side."""
    _check_many(one, other)
    if max(_greatest_number(one), _greatest_number(other)) > MOST_NUMBER:
        raise TooMany(MOST_NUMBER)
    if len(one.lots) * len(other.lots) > MOST_TOGETHER or _most_rows(one) * _most_rows(other) > MOST_TOGETHER:
        raise TooMany(MOST_TOGETHER)


def _greatest_number(task):
    """Tell the greatest number in the inputs and the lots of a task."""
    return max([max([max(row) for row in (inputs,) + lot]) for inputs, lot in task.lots])


def _most_rows(task):
    """Tell the most rows in a lot of a task."""
    return max([len(lot) for _, lot in task.lots])


def _joined(row, other):
    """Tell two tuples of numbers as one, place by place."""
    return tuple([(MOST_NUMBER + 1) * one + two for one, two in zip(row, other)])


def _joined_lot(lot, other):
    """Tell two lots as one, each row of the one with each of the other."""
    return tuple(sorted([_joined(row, two) for row in lot for two in other]))


def _place_among(row, found):
    """Tell the number of the part that has this row."""
    return [row in part for part in found].index(True)


def _is_offer(many, lots, thing):
    """Tell whether a thing is a pair of inputs and a row that is not let for them yet."""
    if not isinstance(thing, tuple) or len(thing) != 2 or not all([is_integers(each, many, many) for each in thing]):
        return False
    inputs, row = thing
    return inputs in lots and min(row) >= 0 and row not in lots[inputs]
