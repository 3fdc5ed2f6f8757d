"""How riddles are solved, or why they have no answers."""


class Fork:
    """A question of which each value is tried: those still to be tried, and why the others fail."""

    def __init__(self, question, waiting):
        self.question = question
        self.waiting = waiting
        self.value = None
        self.proofs = {}
        self.need = 0


def solve(riddle):
    """Tell the pair of a riddle's answers and None, or of None and why there are none."""
    forks = []
    rule = riddle.start()
    while True:
        if rule is not None:
            need, proof = riddle.clash(rule)
            proof = _fall_back(riddle, forks, need, proof)
            if not forks:
                return (None, proof)
        else:
            k = riddle.heaviest()
            if k is None:
                return ([values[0] for values in riddle.left], None)
            forks.append(Fork(k, list(riddle.left[k])))
        fork = forks[-1]
        fork.value = fork.waiting.pop(0)
        rule = riddle.decide(fork.question, fork.value)


def _fall_back(riddle, forks, need, proof):
    """Take decisions back down to a fork that the proof needs and that has values to be tried; tell the proof."""
    while forks:
        fork = forks[-1]
        riddle.undo()
        # A fork that the proof does not need is left out: each of its values would fail alike.
        if need & (1 << fork.question):
            fork.proofs[fork.value] = proof
            fork.need = fork.need | need
            if fork.waiting:
                return proof
            need, proof = _closed(riddle, fork)
        forks.pop()
    return proof


def _closed(riddle, fork):
    """Tell why none of a fork's values is right, and which decisions that needs."""
    k = fork.question
    for value in list(riddle.gone[k]):
        need, proof = riddle.clash_of(k, value)
        fork.proofs[value] = proof
        fork.need = fork.need | need
    return fork.need & ~(1 << k), fork


def solve_all(riddle):
    """List all answers of a riddle, ascending."""
    found = []
    forks = []
    rule = riddle.start()
    while True:
        k = _undecided(riddle) if rule is None else None
        if k is not None:
            forks.append(Fork(k, list(riddle.left[k])))
        else:
            if rule is None:
                found.append(tuple([values[0] for values in riddle.left]))
            _turn_back(riddle, forks)
            if not forks:
                return found
        fork = forks[-1]
        rule = riddle.decide(fork.question, fork.waiting.pop(0))


def _undecided(riddle):
    """Tell the first question with several values left, or None."""
    for k, values in enumerate(riddle.left):
        if len(values) > 1:
            return k
    return None


def _turn_back(riddle, forks):
    """Take decisions back down to a fork that has values to be tried."""
    while forks:
        riddle.undo()
        if forks[-1].waiting:
            return
        forks.pop()
