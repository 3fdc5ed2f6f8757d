"""What the rests of a task let its inputs choose."""

from onesilent.lots import parts
from onesilent.riddles import Riddle, columns_of
from onesilent.values import is_integers, without


def homes_of(found):
    """Tell for each machine in which of the parts of a lot the rows are that have these answers of the others."""
    # Rows with the same answers of the others are neighbours, so just one part has them all.
    homes = [{} for _ in found[0][0]]
    for number, part in enumerate(found):
        for row in part:
            for i in range(len(row)):
                homes[i][without(row, i)[1]] = number
    return homes


class Web:
    """The inputs of a task by their numbers, their parts, and the numbers of the completing inputs of each rest."""

    def __init__(self, task):
        found = [parts(lot) for _, lot in task.lots]
        self.many = task.many
        self.counts = [len(each) for each in found]
        self.homes = [homes_of(each) for each in found]
        self.ends = {}
        for k, (inputs, _) in enumerate(task.lots):
            for i in range(task.many):
                self.ends.setdefault(without(inputs, i), []).append(k)
        self.rests = sorted(self.ends)

    def is_above(self, most):
        """Tell whether there are more choices than this."""
        many = 1
        for count in self.counts:
            many = many * count
            if many > most:
                return True
        return False

    def is_cover(self, choice, rest, thing):
        """Tell whether a thing is a cover of a rest of the task by the choice."""
        return is_integers(thing, self.many - 1, self.many - 1) and self._completes(choice, rest, thing)

    def cover(self, choice, rest):
        """Tell the least cover of a rest by a choice, or None."""
        tried = self.homes[self.ends[rest][0]][rest[0]]
        return min([others for others in tried if self._completes(choice, rest, others)], default=None)

    def _completes(self, choice, rest, others):
        """Tell whether all completing inputs of a rest have a row with these answers in their chosen part."""
        return all([self.homes[k][rest[0]].get(others) == choice[k] for k in self.ends[rest]])

    def picks_of(self, rest):
        """List what the covers of a rest let its completing inputs choose."""
        homes = [self.homes[k][rest[0]] for k in self.ends[rest]]
        shared = [cover for cover in homes[0] if all([cover in home for home in homes])]
        return sorted({tuple([home[cover] for home in homes]) for cover in shared})

    def riddle(self):
        """Tell the riddle which part each inputs are to choose, a rule for each rest."""
        return Riddle(self.counts, [(self.ends[rest], self._columns(rest)) for rest in self.rests])

    def _columns(self, rest):
        """Tell the columns of the rule for a rest."""
        return columns_of(self.picks_of(rest), len(self.ends[rest]))
