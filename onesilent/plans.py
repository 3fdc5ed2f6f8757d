"""Choices of a task, the covers that rests have by them, and plans."""

from onesilent.errors import NoChoice, TooMany
from onesilent.lots import parts
from onesilent.tasks import completing
from onesilent.values import is_integers, is_number, is_rest, without

MOST_CHOICES = 4000


def is_choice(task, thing):
    """Tell whether a thing is a choice for the task."""
    return isinstance(thing, tuple) and _are_numbers(thing, [len(parts(lot)) for _, lot in task.lots])


def covers(task, choice, rest):
    """List the covers of a rest by a choice, ascending."""
    if not is_choice(task, choice):
        raise NoChoice()
    ends = completing(task, rest)
    asked = [(number, lot) for number, (inputs, lot) in zip(choice, task.lots) if inputs in ends]
    homes = [(number, _homes(parts(lot))[rest[0]]) for number, lot in asked]
    return [cover for cover in sorted(homes[0][1]) if all([home.get(cover) == number for number, home in homes])]


def is_plan(task, thing):
    """Tell whether a thing is a plan for the task."""
    if not isinstance(thing, tuple) or len(thing) != 2:
        return False
    choice, told = thing
    if not isinstance(choice, tuple) or not isinstance(told, dict):
        return False
    web = Web(task)
    if not _are_numbers(choice, web.counts) or len(told) != len(web.rests):
        return False
    return all([web.is_cover(choice, rest, told[rest]) for rest in told])


def plan(task):
    """Tell a plan for the task, or None."""
    web = Web(task)
    states = web.states()
    while states:
        left = states.pop()
        k = web.heaviest(left)
        if k is None:
            choice = tuple([numbers[0] for numbers in left])
            return (choice, {rest: web.cover(choice, rest) for rest in web.rests})
        states.extend(web.narrower(left, k))
    return None


def choices(task):
    """List all choices by which each rest has a cover, ascending."""
    web = Web(task)
    if web.is_above(MOST_CHOICES):
        raise TooMany(MOST_CHOICES)
    found = []
    states = web.states()
    while states:
        left = states.pop()
        undecided = [k for k, numbers in enumerate(left) if len(numbers) > 1]
        if not undecided:
            found.append(tuple([numbers[0] for numbers in left]))
        else:
            # Deciding the first inputs first, by their least part, finds the choices ascending.
            states.extend(web.narrower(left, undecided[0]))
    return found


def _are_numbers(things, counts):
    """Tell whether the things are numbers, each from 0 to below its count."""
    return len(things) == len(counts) and all([is_number(each, 0, top - 1) for each, top in zip(things, counts)])


def _homes(found):
    """Tell for each machine in which of the parts of a lot the rows are that have these answers of the others."""
    # Rows with the same answers of the others are neighbours, so just one part has them all.
    homes = [{} for _ in found[0][0]]
    for number, part in enumerate(found):
        for row in part:
            for i in range(len(row)):
                homes[i][without(row, i)[1]] = number
    return homes


class Web:
    """What the rests of a task let its inputs choose. A state lists for each inputs the parts left to it."""

    def __init__(self, task):
        found = [parts(lot) for _, lot in task.lots]
        self.many = task.many
        self.counts = [len(each) for each in found]
        self.homes = [_homes(each) for each in found]
        self.asking = [[without(inputs, i) for i in range(task.many)] for inputs, _ in task.lots]
        self.ends = {}
        for k, asked in enumerate(self.asking):
            for rest in asked:
                self.ends.setdefault(rest, []).append(k)
        self.rests = sorted(self.ends)
        self.weights = [1 for _ in task.lots]
        self.picks = {}

    def is_above(self, most):
        """Tell whether there are more choices than this."""
        many = 1
        for count in self.counts:
            many = many * count
            if many > most:
                return True
        return False

    def is_cover(self, choice, rest, thing):
        """Tell whether a thing is a cover of a rest of the task by the choice."""
        if not is_rest(rest, self.many, self.many) or rest not in self.ends:
            return False
        if not is_integers(thing, self.many - 1, self.many - 1):
            return False
        return self._completes(choice, rest, thing)

    def _completes(self, choice, rest, others):
        """Tell whether all completing inputs of a rest have a row with these answers in their chosen part."""
        return all([self.homes[k][rest[0]].get(others) == choice[k] for k in self.ends[rest]])

    def cover(self, choice, rest):
        """Tell the least cover of a rest by a choice that lets it one."""
        tried = self.homes[self.ends[rest][0]][rest[0]]
        return min([others for others in tried if self._completes(choice, rest, others)])

    def states(self):
        """List the state that all choices to be found lie in, if there is one."""
        self.picks = {rest: self._picks_of(rest) for rest in self.rests}
        left = [list(range(count)) for count in self.counts]
        return [left] if self._narrow(left, self.rests) else []

    def _picks_of(self, rest):
        """List what the covers of a rest ask its completing inputs to choose."""
        homes = [self.homes[k][rest[0]] for k in self.ends[rest]]
        shared = [cover for cover in homes[0] if all([cover in home for home in homes])]
        return sorted({tuple([home[cover] for home in homes]) for cover in shared})

    def narrower(self, left, k):
        """List the states in which inputs k keep one part of those left, the least part last."""
        found = []
        for number in reversed(left[k]):
            state = left[:k] + [[number]] + left[k + 1:]
            if self._narrow(state, self.asking[k]):
                found.append(state)
        return found

    def _narrow(self, left, asking):
        """Take from left what these rests bar, and what is barred by that in turn; tell whether no rest is bare."""
        waiting = list(asking)
        while waiting:
            rest = waiting.pop()
            ends = self.ends[rest]
            picks = [pick for pick in self.picks[rest] if all([part in left[end] for part, end in zip(pick, ends)])]
            if not picks:
                for k in ends:
                    self.weights[k] += 1
                return False
            for place, k in enumerate(ends):
                kept = sorted({pick[place] for pick in picks})
                if len(kept) < len(left[k]):
                    left[k] = kept
                    waiting.extend([other for other in self.asking[k] if other != rest and other not in waiting])
        return True

    def heaviest(self, left):
        """Tell which inputs to decide next, those with few parts left that were often in the way; None if all are."""
        best = None
        for k, numbers in enumerate(left):
            if len(numbers) > 1:
                if best is None or len(numbers) * self.weights[best] < len(left[best]) * self.weights[k]:
                    best = k
        return best
