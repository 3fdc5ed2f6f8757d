"""Runs, chains, views and trees, told again in the plainest way that the document's words let."""

from itertools import product

from onesilent.folks import Folk
from tests.samples import plain_covers, plain_parts, plain_rest, plain_rests


def others_of(many, me):
    """The other machines, ascending."""
    return [by for by in range(many) if by != me]


def plain_turns(many):
    """All that can be missed in one round, in the order of the numbers."""
    return list(product(*[[None, *others_of(many, me)] for me in range(many)]))


def plain_patterns(many, rounds):
    """All patterns, in the order of their numbers."""
    return list(product(plain_turns(many), repeat=rounds))


def random_pattern(source, many, rounds):
    """A pattern drawn from a source: of any kind, or with one machine that is missed often."""
    silent = source.choice([None, *range(many)])
    pattern = []
    for _ in range(rounds):
        turn = []
        for me in range(many):
            missed = source.choice([None, *others_of(many, me)])
            if silent is not None and silent != me and source.random() < 0.8:
                missed = silent
            turn.append(missed)
        pattern.append(tuple(turn))
    return tuple(pattern)


def plain_memories(folk, begin, step, inputs, pattern):
    """The memories of a run, by the stranger's functions themselves."""
    rows = [tuple(begin(me, inputs[me]) for me in range(len(inputs)))]
    for at in range(folk.rounds):
        row = []
        for me in range(len(inputs)):
            heard = [rows[-1][by] for by in range(len(inputs))]
            if pattern[at][me] is not None:
                heard[pattern[at][me]] = None
            row.append(step(me, at, tuple(heard)))
        rows.append(tuple(row))
    return rows


def gatherers(rounds, answer):
    """A folk whose machines remember all that they hear, and answer by a function of themselves and of that."""
    return Folk(rounds, lambda me, value: (value,), lambda me, at, heard: heard, answer)


def knowers(rounds, answer):
    """A folk whose machines remember which inputs they know, None for the others, and answer by that."""
    def step(me, at, heard):
        told = [memory for memory in heard if memory is not None]
        merged = dict(pair for memory in told for pair in memory)
        return tuple(sorted(merged.items()))
    return Folk(rounds, lambda me, value: ((me, value),), step, lambda me, memory: answer(me, dict(memory)))


def plain_shut_out(many, rounds, i):
    """All others miss i."""
    return tuple(tuple(None if me == i else i for me in range(many)) for _ in range(rounds))


def plain_chain(many, first, last):
    """The whole chain from one pattern to another, by the document's words, figure by figure."""
    if not first:
        return [()]
    rounds = len(first)
    found = []
    for d in range(many + 1):
        turn = tuple(last[0][me] if me < d else first[0][me] for me in range(many))
        start = first[1:] if d == 0 else plain_shut_out(many, rounds - 1, d - 1)
        end = last[1:] if d == many else plain_shut_out(many, rounds - 1, d)
        found.extend([(turn,) + later for later in plain_chain(many, start, end)])
    return found


def plain_known(many, pattern, me):
    """Whose inputs a machine knows behind all rounds, from the last round to the first one."""
    if not pattern:
        return {me}
    found = set()
    for by in range(many):
        if by != pattern[-1][me]:
            found |= plain_known(many, pattern[:-1], by)
    return found


def plain_alike(inputs, pattern, other, later, me):
    """Whether no folk can have a machine answer unlike in two runs, from the last round to the first one."""
    if not pattern:
        return inputs[me] == other[me]
    if pattern[-1][me] != later[-1][me]:
        return False
    return all(plain_alike(inputs, pattern[:-1], other, later[:-1], by)
               for by in range(len(inputs)) if by != pattern[-1][me])


def plain_view(inputs, pattern, me):
    """The view of a machine, from the last round to the first one."""
    if not pattern:
        return (inputs[me],)
    return tuple(None if by == pattern[-1][me] else plain_view(inputs, pattern[:-1], by) for by in range(len(inputs)))


def plain_pairs(task, rounds):
    """All pairs of a machine and a view that come of a task's inputs."""
    return {(me, plain_view(inputs, pattern, me)) for inputs, _ in task.lots
            for pattern in plain_patterns(task.many, rounds) for me in range(task.many)}


def is_plain_table(task, rounds, thing):
    """Whether a dict of the right kind is a table, by all runs."""
    if set(thing) != plain_pairs(task, rounds):
        return False
    return all(tuple(thing[me, plain_view(inputs, pattern, me)] for me in range(task.many)) in lot
               for inputs, lot in task.lots for pattern in plain_patterns(task.many, rounds))


def is_plain_bar(task, thing, chosen=None):
    """Whether a thing is a bar, by recursion and the words of the document; things of any kind are let."""
    chosen = chosen or {}
    lots = dict(task.lots)
    if type(thing) is not tuple or not thing:
        return False
    if thing[0] == "parts" and len(thing) == 3:
        _, inputs, bars = thing
        if not is_plain_row(inputs, task.many) or inputs not in lots or inputs in chosen or type(bars) is not tuple:
            return False
        parts = plain_parts(lots[inputs])
        return len(bars) == len(parts) and all(
            is_plain_bar(task, each, {**chosen, inputs: k}) for k, each in enumerate(bars))
    if thing[0] != "bare" or len(thing) != 2 or thing[1] not in plain_rests(task):
        return False
    i, others = thing[1]
    if type(i) is not int or not is_plain_row(others, task.many - 1):
        return False
    if not all(inputs in chosen for inputs in lots if plain_rest(inputs, i) == thing[1]):
        return False
    choice = tuple(chosen.get(inputs, 0) for inputs in sorted(lots))
    return not plain_covers(task, choice, thing[1])


def is_plain_row(thing, many):
    """Whether a thing is a tuple of so many integers."""
    return type(thing) is tuple and len(thing) == many and all(type(item) is int for item in thing)


def is_plain_refusal(task, rounds, thing, asked=None):
    """Whether a thing, made of tuples and dicts as a refusal is, is one by the words of the document."""
    asked = asked or {}
    if thing[0] == "view":
        _, me, view, refusals = thing
        values = {row[me] for _, lot in task.lots for row in lot}
        if (me, view) not in plain_pairs(task, rounds) or (me, view) in asked or set(refusals) != values:
            return False
        return all(is_plain_refusal(task, rounds, each, {**asked, (me, view): value})
                   for value, each in refusals.items())
    _, inputs, pattern = thing
    pairs = [(me, plain_view(inputs, pattern, me)) for me in range(task.many)]
    lots = dict(task.lots)
    return all(pair in asked for pair in pairs) and tuple(asked[pair] for pair in pairs) not in lots[inputs]


def wrong_answers(folk, inputs, lot, some=(0, 1, 2, 3, 4)):
    """All that a folk answers by any pattern that is not let, by the states that its machines can reach together.

    The patterns are those that miss some machines alone."""
    many = len(inputs)
    states = {tuple(folk.begin(me, inputs[me]) for me in range(many))}
    for at in range(folk.rounds):
        reached = set()
        for state in states:
            heard = [[tuple(None if by == missed else state[by] for by in range(many))
                      for missed in [None, *[by for by in others_of(many, me) if by in some]]] for me in range(many)]
            reached.update(product(*[{folk.step(me, at, each) for each in heard[me]} for me in range(many)]))
        states = reached
    told = {tuple(folk.answer(me, state[me]) for me in range(many)) for state in states}
    return sorted(told - set(lot), key=repr)


def bar_size(thing):
    """How many bars a bar has, each counted as often as it stands; without recursion."""
    waiting = [thing]
    count = 0
    while waiting:
        each = waiting.pop()
        count += 1
        if each[0] == "parts":
            waiting.extend(each[2])
    return count


def refusal_size(thing):
    """How many refusals a refusal has, each counted as often as it stands."""
    waiting = [thing]
    count = 0
    while waiting:
        each = waiting.pop()
        count += 1
        if each[0] == "view":
            waiting.extend(each[3].values())
    return count
