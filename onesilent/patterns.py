"""Patterns: whom each machine misses in each round of a run; and their numbers."""

from onesilent.checks import check_machine, check_number, check_pattern, is_pattern_of
from onesilent.values import MOST_ROUNDS, figures_of, power


def is_pattern(many, rounds, thing):
    """Tell whether a thing is a pattern of so many machines and rounds."""
    _check_size(many, rounds)
    return is_pattern_of(thing, many, rounds, rounds)


def plain(many, rounds):
    """Tell the pattern in which nobody misses anyone."""
    _check_size(many, rounds)
    return ((None,) * many,) * rounds


def shut_out(many, rounds, i):
    """Tell the pattern in which all others miss i in each round."""
    _check_size(many, rounds)
    check_machine(i, many)
    return (tuple([None if me == i else i for me in range(many)]),) * rounds


def count_patterns(many, rounds):
    """Tell how many patterns of so many machines and rounds there are."""
    _check_size(many, rounds)
    return power(many, many * rounds)


def pattern_at(many, rounds, number):
    """Tell the pattern with this number."""
    check_number(number, 0, count_patterns(many, rounds) - 1)
    turns = figures_of(number, power(many, many), rounds)
    return tuple([_turn_at(many, turn) for turn in turns])


def pattern_number(many, pattern):
    """Tell the number of a pattern."""
    check_number(many, 3, 5)
    check_pattern(pattern, many, 0, MOST_ROUNDS)
    number = 0
    for turn in pattern:
        for me, missed in enumerate(turn):
            number = number * many + _figure(me, missed)
    return number


def patterns_of(many, rounds):
    """List all patterns of few rounds in the order of their numbers."""
    turns = [_turn_at(many, number) for number in range(power(many, many))]
    patterns = [()]
    for _ in range(rounds):
        patterns = [pattern + (turn,) for pattern in patterns for turn in turns]
    return patterns


def _turn_at(many, number):
    """Tell what all machines miss in the round with this number, one round being numbered as patterns are."""
    return tuple([_missed(me, figure) for me, figure in enumerate(figures_of(number, many, many))])


def _check_size(many, rounds):
    """Raise NoNumber unless there are patterns of so many machines and rounds."""
    check_number(many, 3, 5)
    check_number(rounds, 0, MOST_ROUNDS)


def _missed(me, figure):
    """Tell whom a machine misses by this figure."""
    if figure == 0:
        return None
    return figure - 1 if figure <= me else figure


def _figure(me, missed):
    """Tell the figure by which a machine misses this one."""
    if missed is None:
        return 0
    return missed + 1 if missed < me else missed
