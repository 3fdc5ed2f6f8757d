"""Refusals: trees that tell why a task has no table of so many rounds; and bounds of how many rounds are enough."""

from onesilent.checks import check_number, is_pattern_of
from onesilent.copies import renewed
from onesilent.ends import chosen_ends
from onesilent.lots import lines_of, steps_from
from onesilent.sights import Sights, views_behind
from onesilent.solving import solve
from onesilent.trees import Tree, is_tree
from onesilent.values import is_integers, is_number, is_row
from onesilent.views import table

MOST_APART = 2000000


def refusal(task, rounds):
    """Tell a refusal for the task and so many rounds, or None if it has a table."""
    sights = Sights(task, rounds)
    riddle = sights.riddle()
    _, proof = solve(riddle)
    if proof is None:
        return None
    runs = list(sights.runs)
    found = []
    for number, below in Tree(riddle, proof).nodes:
        if number is None:
            k, pattern = sights.runs[runs[below]]
            found.append(("run", task.lots[k][0], pattern))
        else:
            me, view = sights.pairs[number]
            found.append(("view", me, view, {value: found[at] for value, at in zip(sights.integers[me], below)}))
    # Refusals that stand at several places are one so far; beyond this size they have to stay so.
    return renewed(found[-1], MOST_APART)


def is_refusal(task, rounds, thing):
    """Tell whether a thing is a refusal for the task and so many rounds."""
    return is_tree(thing, RefusalReader(task, rounds))


def fewest_rounds(task, most):
    """Tell the least number of rounds up to most for which the task has a table, or None."""
    check_number(most, 0, 3)
    for rounds in range(most + 1):
        if table(task, rounds) is not None:
            return rounds
    return None


def span(task, plan):
    """Tell the most steps that are needed between rows that complete two covers by the plan for the same inputs."""
    most = 0
    for _, part, ends in chosen_ends(task, plan):
        lines = lines_of(part)
        for i, starts in enumerate(ends):
            steps = steps_from(starts, lines)
            for rows in ends[i + 1:]:
                most = max(most, min([steps[row] for row in rows]))
    return most


class RefusalReader:
    """What reads the refusals for a task and so many rounds, one by one."""

    def __init__(self, task, rounds):
        self.sights = Sights(task, rounds)
        self.many = task.many
        self.rounds = rounds
        self.lots = {inputs: {row: True for row in lot} for inputs, lot in task.lots}

    def read(self, thing, asked):
        """Tell the number of the pair that a refusal asks for and the refusals below, None for what is none here."""
        if isinstance(thing, tuple) and len(thing) == 4 and thing[0] == "view":
            return self._read_view(thing[1], thing[2], thing[3], asked)
        if isinstance(thing, tuple) and len(thing) == 3 and thing[0] == "run":
            return self._read_run(thing[1], thing[2], asked)
        return None

    def _read_view(self, me, view, refusals, asked):
        """Tell what a refusal asks for that has a refusal for each integer that this machine has in a let row."""
        if not is_number(me, 0, self.many - 1) or not is_view(view, self.many, self.rounds):
            return None
        number = self.sights.numbers.get((me, view))
        if number is None or number in asked or not isinstance(refusals, dict):
            return None
        values = self.sights.integers[me]
        if len(refusals) != len(values) or not all([value in refusals for value in values]):
            return None
        return (number, [(value, refusals[value]) for value in values])

    def _read_run(self, inputs, pattern, asked):
        """Tell that a refusal asks for nothing if the row by what is asked for, all views of this run, is not let."""
        if not is_row(inputs) or inputs not in self.lots:
            return None
        if not is_pattern_of(pattern, self.many, self.rounds, self.rounds):
            return None
        run = [self.sights.numbers[(me, view)] for me, view in enumerate(views_behind(inputs, pattern))]
        if not all([number in asked for number in run]):
            return None
        return None if tuple([asked[number] for number in run]) in self.lots[inputs] else (None, [])


def is_view(thing, many, rounds):
    """Tell whether a thing looks like a view behind so many rounds."""
    if rounds == 0:
        return is_integers(thing, 1, 1)
    if not isinstance(thing, tuple) or len(thing) != many:
        return False
    return all([each is None or is_view(each, many, rounds - 1) for each in thing])
