"""A desk on which tasks are drafted by lines, and asked about."""

from onesilent.errors import Empty, NoLine, NoName, NoRow, NoText, NothingDone, SilentError, TooMany
from onesilent.lots import parts
from onesilent.making import rounds_enough
from onesilent.mending import kernel
from onesilent.plans import plan
from onesilent.sure import silences
from onesilent.tasks import MOST_NUMBER, MOST_ROWS, lot_of, made_task
from onesilent.texts import task_text
from onesilent.words import numbers_in, words_of

MOST_LETTERS = 8
LETTERS = "abcdefghijklmnopqrstuvwxyz"
CHANGES = {"task": ("name", "many"), "let": ("name", "row", "row"), "bar": ("name", "row", "row"), "drop": ("name",)}
ASKED = {"show": ("name",), "can": ("name",), "rounds": ("name",), "parts": ("name", "row"), "kernel": ("name",),
         "silences": ("name",), "undo": ()}


class Desk:
    """Drafts by their names, and the lines that were done, each with what stood under its name ahead of it."""

    def __init__(self):
        self.drafts = {}
        self.past = []

    def tell(self, line):
        """Do a line, and tell what comes of it."""
        verb, told = _parsed(line)
        if verb == "undo":
            return self._undo()
        name = told[0]
        if verb == "task":
            return self._put(line, name, Draft(told[1], {}))
        if name not in self.drafts:
            raise NoName(name)
        draft = self.drafts[name]
        rows = told[1:]
        draft.check_rows(rows)
        if verb == "let":
            return self._put(line, name, draft.with_row(rows[0], rows[1]))
        if verb == "bar":
            return self._put(line, name, draft.without_row(rows[0], rows[1]))
        if verb == "drop":
            return self._put(line, name, None)
        return _answered(verb, draft, rows)

    def journal(self):
        """Tell the lines that were done and are not taken back."""
        return "".join([line + "\n" for line, _, _ in self.past])

    def _put(self, line, name, draft):
        """Do a line that puts a draft, or None for no draft, under a name."""
        self.past.append((line, name, self.drafts.get(name)))
        self._place(name, draft)
        return "ok"

    def _undo(self):
        """Take the last line back."""
        if not self.past:
            raise NothingDone()
        _, name, draft = self.past.pop()
        self._place(name, draft)
        return "ok"

    def _place(self, name, draft):
        """Have a draft under a name, or none."""
        if draft is None:
            del self.drafts[name]
        else:
            self.drafts[name] = draft


def recovered(text):
    """Tell the pair of a desk on which the first lines of a text are told, and of how many signs these have."""
    if not isinstance(text, str):
        raise NoText()
    desk = Desk()
    many = 0
    for line in text.split("\n")[:-1]:
        if line.split(" ")[0] not in CHANGES:
            break
        try:
            desk.tell(line)
        except SilentError:
            break
        many += len(line) + 1
    return (desk, many)


class Draft:
    """A task that is drafted: the lots of the inputs that have a row let. A draft never changes."""

    def __init__(self, many, lots):
        self.many = many
        self.lots = lots

    def check_rows(self, rows):
        """Raise NoRow unless all of these are rows of the draft's machines, of numbers within bounds."""
        if not all([len(row) == self.many and max(row) <= MOST_NUMBER for row in rows]):
            raise NoRow()

    def with_row(self, inputs, row):
        """Tell the draft with a row let for these inputs."""
        lot = self.lots.get(inputs, ())
        if row in lot:
            return self
        if len(lot) == MOST_ROWS or (not lot and len(self.lots) == MOST_ROWS):
            raise TooMany(MOST_ROWS)
        return self._with_lot(inputs, sorted(list(lot) + [row]))

    def without_row(self, inputs, row):
        """Tell the draft with a row not let for these inputs."""
        return self._with_lot(inputs, [each for each in self.lots.get(inputs, ()) if each != row])

    def _with_lot(self, inputs, lot):
        """Tell the draft with this lot for some inputs, and without them if it is empty."""
        lots = {each: self.lots[each] for each in self.lots if each != inputs}
        if lot:
            lots[inputs] = tuple(lot)
        return Draft(self.many, lots)

    def task(self):
        """Tell the task, which has no inputs as long as the draft has none."""
        return made_task(self.many, tuple([(inputs, self.lots[inputs]) for inputs in sorted(self.lots)]))


def _parsed(line):
    """Tell the pair of the first word of a line and of what its other words tell."""
    if not isinstance(line, str):
        raise NoLine()
    words = line.split(" ")
    kinds = CHANGES.get(words[0], ASKED.get(words[0]))
    if kinds is None or len(words) != len(kinds) + 1:
        raise NoLine()
    told = [_told_by(kind, word) for kind, word in zip(kinds, words[1:])]
    if None in told:
        raise NoLine()
    return words[0], told


def _told_by(kind, word):
    """Tell what a word of some kind tells, None if it is no such word."""
    if kind == "row":
        return numbers_in(word.split(","))
    if kind == "many":
        return int(word) if word in ("3", "4", "5") else None
    is_name = 1 <= len(word) <= MOST_LETTERS and all([sign in LETTERS for sign in word])
    return word if is_name else None


def _answered(verb, draft, rows):
    """Tell the answer to a question."""
    task = draft.task()
    if verb == "show":
        return task_text(task).replace("\n", ";")
    if not task.lots:
        raise Empty()
    if verb == "can":
        return "no" if plan(task) is None else "yes"
    if verb == "rounds":
        found = plan(task)
        return "none" if found is None else str(rounds_enough(task, found))
    if verb == "parts":
        return str(len(parts(lot_of(task, rows[0]))))
    return _lots_told(silences(task) if verb == "silences" else kernel(task))


def _lots_told(lots):
    """Tell some tuples of numbers, none of them for None."""
    return " ".join([",".join(words_of(lot)) for lot in lots]) if lots else "none"
