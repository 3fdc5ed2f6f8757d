"""Trees that tell why a riddle has no answers: questions are asked, each value has a branch, down to a broken rule."""

from onesilent.riddles import Clash, bits_of, cost_of


def is_tree(thing, reader):
    """Tell whether a thing is a tree, by a reader's reading: None for what is wrong, else what it asks and branches."""
    asked = {}
    waiting = [("read", thing)]
    while waiting:
        verb, item = waiting.pop()
        if verb == "ask":
            asked[item[0]] = item[1]
        elif verb == "forget":
            del asked[item]
        else:
            found = reader.read(item, asked)
            if found is None:
                return False
            k, branches = found
            if branches:
                waiting.append(("forget", k))
            for value, branch in branches:
                waiting.append(("read", branch))
                waiting.append(("ask", (k, value)))
    return True


class Tree:
    """The nodes of a tree: pairs of a question and the places of its branches' nodes, or of None and a broken rule.

    Each node stands behind those of its branches, the root last. Nodes that are alike are one."""

    def __init__(self, riddle, proof):
        self.source = riddle
        self.counts = riddle.counts
        self.nodes = []
        self.places = {}
        self.asked = {}
        self.grown = {}
        self.waiting = [("grow", proof)]
        self.done = []
        self._grow()

    def _grow(self):
        """Make all nodes, without recursion, since a tree may be as deep as there are questions."""
        while self.waiting:
            verb, item = self.waiting.pop()
            if verb == "ask":
                self.asked[item[0]] = item[1]
            elif verb == "join":
                self._join(item[0], item[1])
            elif verb == "break":
                self.done.append(self._broken(item))
            elif isinstance(item, Clash):
                self._unfold(item)
            else:
                self._ask(item.question, None, [("grow", item.proofs[value]) for value in sorted(item.proofs)])

    def _ask(self, k, key, branches):
        """Have a question asked, and its branches grown."""
        self.waiting.append(("join", (k, key)))
        for value in reversed(range(self.counts[k])):
            self.waiting.append(branches[value])
            self.waiting.append(("ask", (k, value)))

    def _join(self, k, key):
        """Make the node of a question of which the branches are done."""
        del self.asked[k]
        start = len(self.done) - self.counts[k]
        place = self._place(k, tuple(self.done[start:]))
        self.done[start:] = [place]
        if key is not None:
            self.grown[key] = place

    def _place(self, question, below):
        """Tell the place of a node, which is made if it is not there."""
        node = (question, below)
        if node not in self.places:
            self.places[node] = len(self.nodes)
            self.nodes.append(node)
        return self.places[node]

    def _broken(self, rule):
        """Tell the place of a node that asks what is not asked of a rule, which is broken by what is asked."""
        place = self._place(None, rule)
        for k in self.source.rules[rule][0]:
            if k not in self.asked:
                place = self._place(k, (place,) * self.counts[k])
        return place

    def _unfold(self, clash):
        """Ask the questions of the bars that a clash needs, down to its rule."""
        bars = self._unasked(clash)
        key = self._key(clash, bars)
        if not bars:
            self.done.append(self._broken(clash.rule))
        elif key in self.grown:
            self.done.append(self.grown[key])
        else:
            k, broken = self._next(clash, bars)
            self._ask(k, key, [self._branch(clash, bars, k, value, broken) for value in range(self.counts[k])])

    def _branch(self, clash, bars, k, value, broken):
        """Tell what to do with a value of a question: it breaks a rule, or is barred for a reason, or neither."""
        if value in broken:
            return ("break", broken[value])
        if (k, value) in bars:
            _, rule, behind = clash.reasons[(k, value)]
            return ("grow", Clash(rule, behind, clash.reasons))
        return ("grow", clash)

    def _unasked(self, clash):
        """Tell all bars that a clash needs, of questions that are not asked."""
        bars = {}
        waiting = list(clash.bars)
        while waiting:
            bar = waiting.pop()
            if bar[0] not in self.asked and bar not in bars:
                bars[bar] = True
                waiting.extend(clash.reasons[bar][2])
        return bars

    def _key(self, clash, bars):
        """Tell all that a tree for a clash depends on: it asks no other questions, nor breaks rules about others."""
        bits = bits_of(self.source.rules[clash.rule][0])
        for k, _ in bars:
            bits = bits | self.source.near[k]
        asked = [(k, value) for k, value in sorted(self.asked.items()) if bits & (1 << k)]
        return (clash.rule, tuple(sorted(bars)), tuple(asked))

    def _next(self, clash, bars):
        """Tell the question that lets the fewest values go on, and the rules that the other values break."""
        best = None
        for bar in bars:
            place, _, behind = clash.reasons[bar]
            if all([k in self.asked for k, _ in behind]):
                broken = self._broken_by(bar[0])
                rank = (self.counts[bar[0]] - len(broken), place)
                if best is None or rank < best[0]:
                    best = (rank, bar[0], broken)
        return best[1], best[2]

    def _broken_by(self, k):
        """Tell for values of a question that break a rule by what is asked alone the cheapest one that they break."""
        broken = {}
        kept = list(range(self.counts[k]))
        found = [self._asked_of(number, k) for number in self.source.asking[k]]
        for _, number, column, picks in sorted(found, key=lambda each: (each[0], each[1])):
            for value in kept:
                if column.get(value, 0) & picks == 0:
                    broken[value] = number
            kept = [value for value in kept if value not in broken]
        return broken

    def _asked_of(self, number, mine):
        """Tell in how many ways the rest of a rule can be asked, its number, a question's column and the picks left."""
        scope, columns = self.source.rules[number]
        picks = -1
        for k, column in zip(scope, columns):
            if k in self.asked:
                picks = picks & column.get(self.asked[k], 0)
        left = [k for k in scope if k not in self.asked and k != mine]
        return (cost_of(self.counts, left), number, columns[scope.index(mine)], picks)
