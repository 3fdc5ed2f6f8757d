"""Views of machines, and tables that tell what each machine is to answer by its view."""

from onesilent.checks import check_machine, check_number, check_pattern, check_row
from onesilent.folks import Folk
from onesilent.sights import MOST_SEEN_ROUNDS, Sights, views_behind
from onesilent.solving import solve
from onesilent.values import is_integer


def view_of(inputs, pattern, me):
    """Tell the view of a machine behind all rounds of a pattern."""
    check_row(inputs, 3, 5)
    check_pattern(pattern, len(inputs), 0, MOST_SEEN_ROUNDS)
    check_machine(me, len(inputs))
    return views_behind(inputs, pattern)[me]


def table(task, rounds):
    """Tell a table for the task and so many rounds, or None."""
    sights = Sights(task, rounds)
    found, _ = solve(sights.riddle())
    if found is None:
        return None
    return {pair: sights.integers[pair[0]][place] for pair, place in zip(sights.pairs, found)}


def is_table(task, rounds, thing):
    """Tell whether a thing is a table for the task and so many rounds."""
    sights = Sights(task, rounds)
    if not isinstance(thing, dict) or len(thing) != len(sights.pairs):
        return False
    if not all([pair in thing and is_integer(thing[pair]) for pair in sights.pairs]):
        return False
    lots = [{row: True for row in lot} for _, lot in task.lots]
    values = [thing[pair] for pair in sights.pairs]
    return all([tuple([values[number] for number in run]) in lots[k] for run, (k, _) in sights.runs.items()])


def by_table(rounds, table):
    """Tell the folk whose machines tell all that they hear, and answer by a table."""
    check_number(rounds, 0, MOST_SEEN_ROUNDS)
    kept = {pair: table[pair] for pair in table}

    def begin(me, value):
        """Tell the first view."""
        return (value,)

    def step(me, at, heard):
        """Tell the view behind a round."""
        return heard

    def answer(me, view):
        """Tell what stands in the table."""
        return kept.get((me, view))

    return Folk(rounds, begin, step, answer)
