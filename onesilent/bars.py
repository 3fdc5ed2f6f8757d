"""Bars: trees that tell why a task has no plan."""

from onesilent.solving import solve
from onesilent.tasks import inputs_of
from onesilent.trees import Tree, is_tree
from onesilent.values import is_rest, is_row
from onesilent.webs import Web


def bar(task):
    """Tell a bar for the task, or None if it has a plan."""
    web = Web(task)
    riddle = web.riddle()
    _, proof = solve(riddle)
    if proof is None:
        return None
    asked = inputs_of(task)
    bars = []
    for k, below in Tree(riddle, proof).nodes:
        if k is None:
            bars.append(("bare", web.rests[below]))
        else:
            bars.append(("parts", asked[k], tuple([bars[place] for place in below])))
    return bars[-1]


def is_bar(task, thing):
    """Tell whether a thing is a bar for the task."""
    return is_tree(thing, BarReader(task))


class BarReader:
    """What reads the bars of a task, one by one."""

    def __init__(self, task):
        self.web = Web(task)
        self.numbers = {inputs: k for k, inputs in enumerate(inputs_of(task))}
        self.picks = {rest: {pick: True for pick in self.web.picks_of(rest)} for rest in self.web.rests}

    def read(self, thing, asked):
        """Tell the number of the inputs that a bar asks for and the bars below, None for what is no bar here."""
        if isinstance(thing, tuple) and len(thing) == 3 and thing[0] == "parts":
            return self._read_parts(thing[1], thing[2], asked)
        if isinstance(thing, tuple) and len(thing) == 2 and thing[0] == "bare":
            return self._read_bare(thing[1], asked)
        return None

    def _read_parts(self, inputs, bars, asked):
        """Tell what a bar asks for that has a bar for each part of these inputs."""
        if not is_row(inputs) or inputs not in self.numbers or not isinstance(bars, tuple):
            return None
        k = self.numbers[inputs]
        if k in asked or len(bars) != self.web.counts[k]:
            return None
        return (k, list(enumerate(bars)))

    def _read_bare(self, rest, asked):
        """Tell that a bar asks for nothing if this rest has no cover by what is asked for, all that completes it."""
        if not is_rest(rest, self.web.many, self.web.many) or rest not in self.picks:
            return None
        ends = self.web.ends[rest]
        if not all([k in asked for k in ends]) or tuple([asked[k] for k in ends]) in self.picks[rest]:
            return None
        return (None, [])
