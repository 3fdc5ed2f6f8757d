"""Lots of rows: their parts, and the ways within them."""

from onesilent.errors import NoLot, NoRow
from onesilent.values import is_ascending, is_row, without


def parts(lot):
    """List the parts of a lot, ascending."""
    if not _is_lot(lot):
        raise NoLot()
    lines = lines_of(lot)
    found = []
    placed = {}
    for row in lot:
        # The first row met of a part is its least one, so the parts come ascending.
        if row not in placed:
            part = tuple(sorted(steps_from([row], lines)))
            found.append(part)
            for member in part:
                placed[member] = True
    return found


def way(lot, one, other):
    """Tell the least of the shortest ways from one row to the other within the lot, or None."""
    if not _is_lot(lot):
        raise NoLot()
    lines = lines_of(lot)
    for end in (one, other):
        if not is_row(end) or end not in lot:
            raise NoRow()
    steps = steps_from([other], lines)
    if one not in steps:
        return None
    rows = [one]
    while rows[-1] != other:
        here = rows[-1]
        nearer = [row for row in _neighbours(here, lines) if steps[row] < steps[here]]
        rows.append(min(nearer))
    return tuple(rows)


def _is_lot(thing):
    """Tell whether a thing is a lot of rows of one length, one at least."""
    if not isinstance(thing, tuple) or not thing or not all([is_row(row) for row in thing]):
        return False
    return all([len(row) == len(thing[0]) for row in thing]) and is_ascending(thing)


def lines_of(lot):
    """Tell for each rest of the rows which of them have it: any two of these are neighbours."""
    lines = {}
    for row in lot:
        for i in range(len(row)):
            lines.setdefault(without(row, i), []).append(row)
    return lines


def _neighbours(row, lines):
    """List the neighbours of a row within its lot."""
    return [other for i in range(len(row)) for other in lines[without(row, i)] if other != row]


def steps_from(starts, lines):
    """Tell for each row that some of these rows lead to the fewest steps to it."""
    steps = {row: 0 for row in starts}
    gone = {}
    level = list(starts)
    while level:
        reached = []
        for row in level:
            for i in range(len(row)):
                line = without(row, i)
                # A line is gone through once: a row in it makes all of it reached.
                if line not in gone:
                    gone[line] = True
                    reached.extend([other for other in lines[line] if other not in steps])
                    for other in lines[line]:
                        steps.setdefault(other, steps[row] + 1)
        level = reached
    return steps
