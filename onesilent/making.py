"""Machines made by a plan, and how many rounds they take."""

from onesilent.ends import chosen_ends
from onesilent.folks import Folk
from onesilent.lots import way


def longest(task, plan):
    """Tell the most steps of the ways from the least row of a chosen part to its ends."""
    return _most_steps(_ways(task, plan))


def rounds_enough(task, plan):
    """Tell a number of rounds in which machines made by this plan solve the task."""
    return _rounds_for(_ways(task, plan))


def told_folk(task, plan):
    """Tell a folk that solves the task by this plan."""
    ways = _ways(task, plan)
    guide = Guide(task.many, ways, plan[1])
    return Folk(_rounds_for(ways), guide.first, guide.later, guide.said)


def _ways(task, plan):
    """Tell for each inputs the ways from the least row of the chosen part to the end for each machine."""
    return {inputs: [way(part, part[0], rows[0]) for rows in ends] for inputs, part, ends in chosen_ends(task, plan)}


def _most_steps(ways):
    """Tell the most steps of these ways."""
    return max([len(rows) - 1 for found in list(ways.values()) for rows in found])


def _rounds_for(ways):
    """Tell two rounds, and as many as it takes to halve the longest way down to one step."""
    return 2 + _most_steps(ways).bit_length()


class Guide:
    """What the machines of a folk that is made by a plan go by.

    In the first two rounds a machine remembers the inputs that it knows, None for the others. Behind them, and later,
    it remembers a triple: these inputs; the machine that is missed, None if it knows of none; and its place on the way
    for this machine, None for the end if it does not know all inputs."""

    def __init__(self, many, ways, told):
        self.many = many
        self.ways = ways
        self.covers = {rest: told[rest] for rest in told}

    def first(self, me, value):
        """Tell the first memory of a machine."""
        return (None,) * me + (value,) + (None,) * (self.many - me - 1)

    def later(self, me, at, heard):
        """Tell the memory of a machine behind a round."""
        told = [memory for memory in heard if memory is not None]
        if at > 1:
            return self._nearer(told)
        inputs = _merged(told)
        if at == 0:
            return inputs
        # Two machines cannot miss two unlike inputs now, since in each round one at most is missed.
        missing = [i for i, value in enumerate(inputs) if value is None]
        return (inputs, missing[0], None) if missing else (inputs, None, 0)

    def _nearer(self, told):
        """Tell the memory of a machine that hears these, in the middle between the furthest of them."""
        inputs = _merged([memory[0] for memory in told])
        found = [memory[1] for memory in told if memory[1] is not None]
        silent = found[0] if found else None
        if None in inputs:
            return (inputs, silent, None)
        if silent is None or inputs not in self.ways:
            return (inputs, None, 0)
        end = len(self.ways[inputs][silent]) - 1
        places = [end if memory[2] is None else memory[2] for memory in told]
        return (inputs, silent, (min(places) + max(places)) // 2)

    def said(self, me, memory):
        """Tell the answer of a machine."""
        inputs, silent, place = memory
        if place is None:
            cover = self.covers.get((silent, inputs[:silent] + inputs[silent + 1:]))
            return None if cover is None else cover[me if me < silent else me - 1]
        if inputs not in self.ways:
            return None
        # All ways of some inputs begin with the same row.
        rows = self.ways[inputs][0 if silent is None else silent]
        return rows[place][me]


def _merged(told):
    """Tell all inputs that some of these know."""
    merged = told[0]
    for inputs in told[1:]:
        merged = tuple([two if one is None else one for one, two in zip(merged, inputs)])
    return merged
