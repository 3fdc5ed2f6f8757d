"""The chain of patterns that leads from one to another; and what machines know, or cannot tell apart."""

from onesilent.checks import check_number, check_pattern, check_row
from onesilent.patterns import shut_out
from onesilent.values import MOST_ROUNDS, figures_of, power


def chain_at(many, first, last, number):
    """Tell the pattern with this number in the chain from the first pattern to the last one."""
    check_number(many, 3, 5)
    check_pattern(first, many, 0, MOST_ROUNDS)
    rounds = len(first)
    check_pattern(last, many, rounds, rounds)
    check_number(number, 0, power(many + 1, rounds) - 1)
    turns = []
    for at, figure in enumerate(figures_of(number, many + 1, rounds)):
        turns.append(last[at][:figure] + first[at][figure:])
        # The later rounds are those of a shorter chain, which leads between other patterns.
        if figure > 0:
            first = shut_out(many, rounds, figure - 1)
        if figure < many:
            last = shut_out(many, rounds, figure)
    return tuple(turns)


def mover(many, rounds, number):
    """Tell the round and the machine whose entry alone may be unlike in this pattern of a chain and the one ahead."""
    check_number(many, 3, 5)
    check_number(rounds, 0, MOST_ROUNDS)
    check_number(number, 1, power(many + 1, rounds) - 1)
    figures = figures_of(number, many + 1, rounds)
    at = rounds - 1
    while figures[at] == 0:
        at -= 1
    return (at, figures[at] - 1)


def known(many, pattern):
    """Tell for each machine whose inputs it knows behind all rounds of a pattern."""
    check_number(many, 3, 5)
    check_pattern(pattern, many, 0, MOST_ROUNDS)
    lots = [(me,) for me in range(many)]
    for turn in pattern:
        lots = [_together(lots, missed) for missed in turn]
    return tuple(lots)


def _together(lots, missed):
    """Tell the lot of what is in one of the lots but that of the machine that is missed."""
    return tuple(sorted({item for by, lot in enumerate(lots) if by != missed for item in lot}))


def alike_for(inputs, pattern, other, later):
    """Tell for each machine whether no folk can have it answer unlike in two runs."""
    check_row(inputs, 3, 5)
    many = len(inputs)
    check_pattern(pattern, many, 0, MOST_ROUNDS)
    check_row(other, many, many)
    check_pattern(later, many, len(pattern), len(pattern))
    alike = [one == two for one, two in zip(inputs, other)]
    for turn, twin in zip(pattern, later):
        alike = [one == two and _all_alike(alike, one) for one, two in zip(turn, twin)]
    return tuple(alike)


def _all_alike(alike, missed):
    """Tell whether all machines are alike but perhaps the one that is missed."""
    return all([flag for by, flag in enumerate(alike) if by != missed])
