"""Riddles: questions with so many values each, and rules that tell which values of several questions go together."""

from heapq import heappop, heappush

MOST_COST = 1000000000000


def columns_of(picks, width):
    """Tell for each question of a rule by which picks it has which value, the picks as the bits of a number."""
    columns = [{} for _ in range(width)]
    for number, pick in enumerate(picks):
        for column, value in zip(columns, pick):
            column[value] = column.get(value, 0) | (1 << number)
    return columns


def bits_of(numbers):
    """Tell some numbers as the bits of one."""
    bits = 0
    for number in numbers:
        bits = bits | (1 << number)
    return bits


def cost_of(counts, questions):
    """Tell in how many ways some questions could be answered; beyond a bound it does not matter in how many."""
    cost = 1
    for k in questions:
        cost = min(cost * counts[k], MOST_COST)
    return cost


class Clash:
    """A rule that has no picks left by what is decided and by earlier bars: such as it needs, and the reasons of all.

    The reason of a bar is its place on the trail, the rule that bars, and the earlier bars by which it does so."""

    def __init__(self, rule, bars, reasons):
        self.rule = rule
        self.bars = bars
        self.reasons = reasons


class Riddle:
    """Questions and rules, the decisions so far, and what the rules bar by them.

    A rule is a pair of its questions and their columns. A bar is a pair of a question and a value that it cannot have.
    The trail lists all bars, the eldest first, each with the rule that bars, or None where a decision does."""

    def __init__(self, counts, rules):
        self.counts = counts
        self.rules = rules
        self.costs = [cost_of(counts, scope) for scope, _ in rules]
        self.asking = [[] for _ in counts]
        self.near = [0 for _ in counts]
        for number, (scope, _) in enumerate(rules):
            bits = bits_of(scope)
            for k in scope:
                self.asking[k].append(number)
                self.near[k] = self.near[k] | bits
        self.left = [list(range(count)) for count in counts]
        self.gone = [{} for _ in counts]
        self.trail = []
        self.marks = []
        self.weights = [1 for _ in counts]
        self.ticks = 0

    def start(self):
        """Bar what the rules bar without decisions; tell a rule without picks, or None."""
        return self._narrow(list(range(len(self.rules))))

    def decide(self, k, value):
        """Leave a question one value, and bar what the rules bar then; tell a rule without picks, or None."""
        self.marks.append((len(self.trail), list(self.left)))
        self._keep(k, [value], None)
        return self._narrow(self.asking[k])

    def undo(self):
        """Take the last decision back."""
        length, left = self.marks.pop()
        for k, value, _ in self.trail[length:]:
            del self.gone[k][value]
        del self.trail[length:]
        self.left = left

    def heaviest(self):
        """Tell which question to decide next, one of few values that was often in the way; None if all have one."""
        best = None
        for k, values in enumerate(self.left):
            if len(values) > 1:
                if best is None or len(values) * self.weights[best] < len(self.left[best]) * self.weights[k]:
                    best = k
        return best

    def _narrow(self, numbers):
        """Bar what these rules bar, and what follows in turn; tell a rule without picks, or None."""
        queue = []
        queued = {}
        for number in numbers:
            self._queue(number, queue, queued)
        while queue:
            number = heappop(queue)[2]
            del queued[number]
            picks = self._picks_left(number)
            if picks == 0:
                for k in self.rules[number][0]:
                    self.weights[k] += 1
                return number
            for k in self._bar(number, picks):
                for other in self.asking[k]:
                    if other != number and other not in queued:
                        self._queue(other, queue, queued)
        return None

    def _queue(self, number, queue, queued):
        """Have a rule looked at: cheap ones first, and then those that came first, since both keep trees small."""
        self.ticks += 1
        queued[number] = True
        heappush(queue, (self.costs[number], self.ticks, number))

    def _picks_left(self, number):
        """Tell the picks that a rule has left."""
        scope, columns = self.rules[number]
        picks = -1
        for k, column in zip(scope, columns):
            here = 0
            for value in self.left[k]:
                here = here | column.get(value, 0)
            picks = picks & here
        return picks

    def _bar(self, number, picks):
        """Bar the values that a rule has in none of these picks; list the questions that lost some."""
        scope, columns = self.rules[number]
        fewer = []
        for k, column in zip(scope, columns):
            kept = [value for value in self.left[k] if column.get(value, 0) & picks]
            if len(kept) < len(self.left[k]):
                self._keep(k, kept, number)
                fewer.append(k)
        return fewer

    def _keep(self, k, kept, rule):
        """Bar all values of a question but these."""
        keeping = {value: True for value in kept}
        for value in self.left[k]:
            if value not in keeping:
                self.gone[k][value] = len(self.trail)
                self.trail.append((k, value, rule))
        self.left[k] = kept

    def clash(self, number):
        """Tell which decisions leave a rule no picks, as bits, and why."""
        picks = 0
        for bits in list(self.rules[number][1][0].values()):
            picks = picks | bits
        return self._clash(number, picks, len(self.trail))

    def clash_of(self, k, value):
        """Tell which decisions let a rule bar a value, as bits, and why."""
        place = self.gone[k][value]
        number = self.trail[place][2]
        return self._clash(number, self._picks_of(number, k, value), place)

    def _clash(self, number, picks, place):
        """Tell which decisions left a rule none of these picks ahead of a place on the trail, as bits, and why."""
        bars = self._bars(number, picks, place)
        reasons = {}
        need = 0
        waiting = list(bars)
        while waiting:
            k, value = waiting.pop()
            if (k, value) not in reasons:
                at = self.gone[k][value]
                rule = self.trail[at][2]
                if rule is None:
                    need = need | (1 << k)
                else:
                    behind = self._bars(rule, self._picks_of(rule, k, value), at)
                    reasons[(k, value)] = (at, rule, behind)
                    waiting.extend(behind)
        return need, Clash(number, bars, reasons)

    def _picks_of(self, number, k, value):
        """Tell the picks of a rule that have this value."""
        scope, columns = self.rules[number]
        return columns[scope.index(k)].get(value, 0)

    def _bars(self, number, picks, place):
        """List bars ahead of a place on the trail that leave a rule none of these picks, elder ones rather."""
        scope, columns = self.rules[number]
        found = []
        for k, column in zip(scope, columns):
            for value in column:
                at = self.gone[k].get(value, place)
                if at < place and column[value] & picks:
                    found.append((at, k, value, column[value]))
        return [(bar[1], bar[2]) for bar in _needed(sorted(found), picks)]


def _needed(found, picks):
    """List such of the found that leave none of the picks, and none of which could be spared."""
    kept = []
    left = picks
    for bar in found:
        if bar[3] & left:
            kept.append(bar)
            left = left & ~bar[3]
    for bar in list(kept):
        others = [each for each in kept if each != bar]
        if picks & ~_taken(others) == 0:
            kept = others
    return kept


def _taken(found):
    """Tell the picks that these do not leave."""
    bits = 0
    for bar in found:
        bits = bits | bar[3]
    return bits
