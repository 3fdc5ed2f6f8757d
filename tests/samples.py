"""What several tests use: tasks, odd values, and the document's definitions told again in the plainest way."""

from itertools import product

from onesilent.errors import NoRow, NoName, SilentError
from onesilent.folks import Folk
from onesilent.tasks import Task


def task_of(many, table):
    """Make a task from a dict from inputs to any list of rows."""
    return Task(many, tuple((inputs, tuple(sorted(table[inputs]))) for inputs in sorted(table)))


def wide(many, table):
    """Make a task beyond the bounds of the constructor, as later points return them."""
    task = Task(3, (((0, 0, 0), ((0, 0, 0),)),))
    task.many = many
    task.lots = tuple((inputs, tuple(sorted(table[inputs]))) for inputs in sorted(table))
    return task


def agreement(many, values):
    """All answer one value that stands in the inputs."""
    rows = product(range(values), repeat=many)
    return task_of(many, {row: [(value,) * many for value in sorted(set(row))] for row in rows})


def few(many, values, most):
    """All answer values that stand in the inputs, no more than so many unlike ones."""
    return wide(many, {row: [answer for answer in product(sorted(set(row)), repeat=many) if len(set(answer)) <= most]
                       for row in product(range(values), repeat=many)})


def near(many, values):
    """All answer between the least and the greatest of the inputs, no two further apart than 1."""
    return wide(many, {row: [answer for answer in product(range(min(row), max(row) + 1), repeat=many)
                             if max(answer) - min(answer) <= 1] for row in product(range(values), repeat=many)})


def climb(many, steps):
    """Rows each of which is one more than the one ahead in the next place: a way of so many steps."""
    return [tuple((k + many - 1 - place) // many for place in range(many)) for k in range(steps + 1)]


def climbing(many, steps):
    """Two inputs unlike in the first place: what the last machine and one of the others knows bars the rest of a way.

    The least row is let for the one, the whole way for the other one and the greatest row for a third one."""
    rows = climb(many, steps)
    zeros = (0,) * (many - 2)
    return task_of(many, {zeros + (0, 0): [rows[0]], zeros + (0, 1): rows, zeros + (1, 1): [rows[-1]]})


def chained(count, width):
    """Inputs one behind another, each sharing a rest with the next one; the first and the last bar each other."""
    table = {((k + 1) // 2, k // 2, 0): [(n, n, n) for n in range(width)] for k in range(count)}
    table[(0, 0, 0)] = [(0, 0, 0)]
    table[(count // 2, (count - 1) // 2, 0)] = [(1, 1, 1)]
    return task_of(3, table)


def leader():
    """One machine of three answers 1, the others 0."""
    return task_of(3, {(0, 0, 0): [(1, 0, 0), (0, 1, 0), (0, 0, 1)]})


def apart(counts):
    """A task whose inputs share no rest and have so many parts each."""
    return task_of(3, {(k, k, k): [(n, n, n) for n in range(count)] for k, count in enumerate(counts)})


def random_task(source, many, most_inputs, values, most_rows):
    """A task of inputs 0 and 1 (2 as well for three machines), its rows drawn from a source."""
    cells = list(product(range(3 if many == 3 else 2), repeat=many))
    rows = list(product(range(values), repeat=many))
    table = {}
    for inputs in source.sample(cells, source.randint(1, min(most_inputs, len(cells)))):
        table[inputs] = source.sample(rows, source.randint(1, min(most_rows, len(rows))))
    return task_of(many, table)


def nested(depth, make):
    """A thing nested so deep."""
    thing = make(7)
    for _ in range(depth - 1):
        thing = make(thing)
    return thing


def deep_bar(depth):
    """What looks like a bar of so many levels."""
    thing = ("bare", (0, (0, 0)))
    for _ in range(depth):
        thing = ("parts", (0, 0, 0), (thing,))
    return thing


def silent_folk():
    """A folk of one round, of which no machine answers."""
    return Folk(1, lambda me, value: None, lambda me, at, heard: None, lambda me, memory: None)


def oddities():
    """Values that are no row, number, rest, lot, choice or plan of any task, new each time."""
    return [
        None, True, False, -1, -(10 ** 109), 10 ** 109, "", "0", "many", "a\nb", "x" * 20000,
        (), [], {}, (None,), ((),), ([],), ({},), (True, False), ("a", "b", "c"), (1, "2", 3), (0, 0, None),
        (0, 0, [0]), (0, 0, (0,)), (0, 0, {}), (0, 0, True), (False, 0, 0), [0, 0, 0], [(0, 0, 0)],
        ([0, 0, 0],), [[0, 0, 0]], (0,), (0, 0), (0,) * 6, (0, 0, 0, [0]), (0, [0, 0]), [0, (0, 0)],
        (0, (0,)), (0, (0, 0, 0, 0, 0)), (-1, (0, 0)), (True, (0, 0)), (0, (0, False)), ("0", (0, 0)),
        (0, (0, 0), 0), (0, ("a", "b")), ((0, 0), 0), ((0, 0), (0, 0)), {(0, 0, 0): (0, 0, 0)}, {0: {0: []}},
        ((0, 0, 0), (0, 0, 0)), ((1, 0, 0), (0, 0, 0)), ((0, 0, 0), (0, 0, 0, 0)), ((0, 0), (0, 1)),
        ((0,) * 6,), ((0, 0, 0), None), ((0, 0, 0), [0, 0, 1]), ((0, 0, 0), (0, 0, True)), ((0, 0, 0), {}),
        ((), {}), (None, {}), ((0,), None), ((0,), {}), ((0,), []), ((0,), {"a": 1}), ((0,), {None: (0, 0)}),
        nested(30, lambda thing: (thing,)), nested(30, lambda thing: [thing]), nested(30, lambda thing: {0: thing}),
        (0, nested(29, lambda thing: (thing,))), (0, 0, nested(29, lambda thing: [thing])), deep_bar(400),
        (deep_bar(400),) * 3, [0] * 90000, (None,) * 90000,
        leader(), (leader(), leader(), leader()), (0, leader()), (0, (leader(), 0)), [leader()], {0: leader()},
        NoRow(), NoName(1), SilentError(), (NoRow(), 0, 0), (0, (NoRow(), 0)),
        (None, None, None), ((None,) * 3,) * 31, ((None, None),), ((None, True, None),),
        ((False, None, None),), ([None, None, None],), [(None, None, None)], ((None, None, "0"),),
        (((None, None, None),),), ((None, None, None), None), ("bare",), ("parts", (0, 0, 0), ()), ("run", (), ()),
        ("view", 0, (0,), {}), {(0, (0,)): 0}, silent_folk(), (silent_folk(),),
    ]


def are_neighbours(one, other):
    """Whether two rows are unlike in exactly one place."""
    return len([k for k in range(len(one)) if one[k] != other[k]]) == 1


def plain_parts(lot):
    """The parts of a lot by merging classes as long as neighbours stand in two."""
    classes = [{row} for row in lot]
    merged = True
    while merged:
        merged = False
        for one in classes:
            for other in classes:
                if one is not other and any(are_neighbours(a, b) for a in one for b in other):
                    one |= other
                    classes.remove(other)
                    merged = True
                    break
            if merged:
                break
    return sorted(tuple(sorted(each)) for each in classes)


def plain_way(lot, one, other):
    """The least of the shortest ways, of all ways that are let grow step by step."""
    ways = [(one,)]
    while ways:
        there = sorted(way for way in ways if way[-1] == other)
        if there:
            return there[0]
        # Of two ways to one row only the lesser one can be ahead of a least one.
        met = {row for way in ways for row in way}
        longer = {}
        for way in sorted(ways):
            for row in lot:
                if row not in met and are_neighbours(way[-1], row):
                    longer.setdefault(row, way + (row,))
        ways = list(longer.values())
        lot = [row for row in lot if row not in met]
    return None


def plain_rest(row, i):
    """What a row tells of the others."""
    return (i, tuple(row[k] for k in range(len(row)) if k != i))


def plain_rests(task):
    """All rests of all inputs."""
    return sorted({plain_rest(inputs, i) for inputs, _ in task.lots for i in range(task.many)})


def plain_covers(task, choice, rest):
    """The covers of a rest, tried one by one of all the answers that stand anywhere in the task."""
    chosen = [(inputs, plain_parts(lot)[choice[k]]) for k, (inputs, lot) in enumerate(task.lots)]
    ends = [part for inputs, part in chosen if plain_rest(inputs, rest[0]) == rest]
    values = sorted({value for _, lot in task.lots for row in lot for value in row})
    found = []
    for cover in product(values, repeat=task.many - 1):
        if all(any(plain_rest(row, rest[0]) == (rest[0], cover) for row in part) for part in ends):
            found.append(cover)
    return found


def plain_choices(task):
    """All choices by which each rest has a cover, of all that there are."""
    parts = [plain_parts(lot) for _, lot in task.lots]
    ends = {rest: [k for k, (inputs, _) in enumerate(task.lots) if plain_rest(inputs, rest[0]) == rest]
            for rest in plain_rests(task)}
    sides = [[[{plain_rest(row, i) for row in part} for i in range(task.many)] for part in each] for each in parts]
    found = []
    for choice in product(*[range(len(each)) for each in parts]):
        if all(set.intersection(*[sides[k][choice[k]][rest[0]] for k in ends[rest]]) for rest in ends):
            found.append(choice)
    return found
