"""What the machines see in all runs of so many rounds of a task."""

from onesilent.checks import check_number
from onesilent.errors import TooMany
from onesilent.folks import MOST_RUNS, heard_of, is_above
from onesilent.patterns import patterns_of
from onesilent.riddles import Riddle, columns_of

MOST_SEEN_ROUNDS = 4
MOST_PAIRS = 400


def views_behind(inputs, pattern):
    """Tell the views of all machines behind all rounds of a pattern."""
    views = first_views(inputs)
    for turn in pattern:
        views = seen_behind(views, turn)
    return views


def first_views(inputs):
    """Tell the views of all machines at first."""
    return tuple([(value,) for value in inputs])


def seen_behind(views, turn):
    """Tell the views of all machines behind a round, these being those ahead of it."""
    return tuple([heard_of(views, missed) for missed in turn])


class Sights:
    """The pairs of a machine and a view that come of a task's inputs, by their numbers, and the runs by these.

    Runs in which each machine has the same view are one."""

    def __init__(self, task, rounds):
        check_number(rounds, 0, MOST_SEEN_ROUNDS)
        if is_above(task, rounds, MOST_RUNS):
            raise TooMany(MOST_RUNS)
        self.lots = task.lots
        self.integers = [sorted({row[me] for _, lot in task.lots for row in lot}) for me in range(task.many)]
        self.pairs = []
        self.numbers = {}
        self.runs = {}
        turns = patterns_of(task.many, 1)
        for k, (inputs, _) in enumerate(task.lots):
            self._take_up(k, _ends_of(inputs, rounds, turns))
            if len(self.pairs) > MOST_PAIRS:
                raise TooMany(MOST_PAIRS)

    def _take_up(self, k, ends):
        """Take up the runs of some inputs."""
        for pattern, views in ends:
            run = tuple([self._number((me, view)) for me, view in enumerate(views)])
            self.runs.setdefault(run, (k, pattern))

    def _number(self, pair):
        """Tell the number of a pair, which gets one if it has none."""
        if pair not in self.numbers:
            self.numbers[pair] = len(self.pairs)
            self.pairs.append(pair)
        return self.numbers[pair]

    def riddle(self):
        """Tell the riddle which value each pair is to have, by its place among its machine's, a rule for each run."""
        lots = [self._columns(lot) for _, lot in self.lots]
        rules = [(run, lots[self.runs[run][0]]) for run in self.runs]
        return Riddle([len(self.integers[me]) for me, _ in self.pairs], rules)

    def _columns(self, lot):
        """Tell the columns of the rules for the runs of inputs with this lot."""
        places = [{value: place for place, value in enumerate(values)} for values in self.integers]
        rows = [tuple([places[me][value] for me, value in enumerate(row)]) for row in lot]
        return columns_of(rows, len(places))


def _ends_of(inputs, rounds, turns):
    """List the pairs of a pattern and of the views of all machines behind it, of all patterns of so many rounds."""
    ends = [((), first_views(inputs))]
    for _ in range(rounds):
        ends = [(pattern + turn, seen_behind(views, turn[0])) for pattern, views in ends for turn in turns]
    return ends
