"""Folks: machines of strangers, and what they remember and answer in a run."""

from onesilent.checks import check_number, check_pattern, check_row
from onesilent.copies import renewed
from onesilent.errors import NoFunction, TooMany
from onesilent.patterns import count_patterns, patterns_of
from onesilent.values import MOST_ROUNDS, is_integer

MOST_RUNS = 20000
MOST_HELD = 100000


class Folk:
    """Machines that run for so many rounds: how each one begins, steps, and answers behind all rounds."""

    def __init__(self, rounds, begin, step, answer):
        check_number(rounds, 0, MOST_ROUNDS)
        for number, function in enumerate((begin, step, answer)):
            if function is None or isinstance(function, (bool, int, str, tuple, list, dict)):
                raise NoFunction(number + 1)
        self.rounds = rounds
        self.begin = begin
        self.step = step
        self.answer = answer


def answers(folk, inputs, pattern):
    """Tell what all machines answer behind all rounds."""
    _check_run(folk, inputs, pattern)
    last = _course(folk, inputs, pattern)[-1]
    return tuple([answer_of(folk, me, memory) for me, memory in enumerate(last)])


def memories(folk, inputs, pattern):
    """List the memories of all machines, at first and behind each round."""
    _check_run(folk, inputs, pattern)
    return renewed(_course(folk, inputs, pattern), MOST_HELD)


def wrong_run(task, folk):
    """Tell the first inputs and pattern by which a folk's answers are not let, or None."""
    if is_above(task, folk.rounds, MOST_RUNS):
        raise TooMany(MOST_RUNS)
    patterns = patterns_of(task.many, folk.rounds)
    for inputs, lot in task.lots:
        for pattern in patterns:
            if answers(folk, inputs, pattern) not in lot:
                return (inputs, pattern)
    return None


def is_above(task, rounds, most):
    """Tell whether inputs times patterns of so many rounds come to more."""
    return len(task.lots) * count_patterns(task.many, rounds) > most


def heard_of(told, missed):
    """Tell what a machine hears that misses this one, of what all of them tell."""
    return tuple([None if by == missed else each for by, each in enumerate(told)])


def answer_of(folk, me, memory):
    """Tell what a machine answers, this being its memory behind all rounds; None for what is no integer."""
    said = folk.answer(me, memory)
    return said if is_integer(said) else None


def _check_run(folk, inputs, pattern):
    """Raise the error of the first argument that is wrong."""
    check_row(inputs, 3, 5)
    check_pattern(pattern, len(inputs), folk.rounds, folk.rounds)


def _course(folk, inputs, pattern):
    """List the memories of all machines, at first and behind each round."""
    course = [tuple([folk.begin(me, value) for me, value in enumerate(inputs)])]
    for at, turn in enumerate(pattern):
        ahead = course[-1]
        course.append(tuple([folk.step(me, at, heard_of(ahead, missed)) for me, missed in enumerate(turn)]))
    return course
