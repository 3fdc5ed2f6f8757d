"""Point 27: a desk that works by lines."""

from itertools import product
from random import Random

from onesilent.desk import Desk, recovered
from onesilent.errors import Empty, NoInputs, NoLine, NoName, NoRow, NoText, NothingDone, SilentError, TooMany
from onesilent.families import agreement, few, leader, near
from onesilent.lots import parts
from onesilent.making import rounds_enough
from onesilent.mending import kernel
from onesilent.plans import plan
from onesilent.sure import silences
from onesilent.tasks import lot_of
from onesilent.texts import task_text
from tests.cases import Case
from tests.samples import apart, nested, oddities, task_of

CHANGES = ("task", "let", "bar", "drop")


def written(row):
    """A row as it stands in a line."""
    return ",".join(map(str, row))


def drafted(name, task):
    """The lines that draft a task."""
    return [f"task {name} {task.many}"] + [f"let {name} {written(inputs)} {written(row)}"
                                           for inputs, lot in task.lots for row in lot]


def desk_of(lines):
    """A desk on which some lines were told, all of which are done."""
    desk = Desk()
    for line in lines:
        assert desk.tell(line) == "ok"
    return desk


def plain_drafts(lines):
    """What stands under the names behind some lines of the four kinds, from the front."""
    drafts = {}
    for line in lines:
        verb, name, *words = line.split(" ")
        rows = [tuple(map(int, word.split(","))) for word in words]
        if verb == "task":
            drafts[name] = (int(words[0]), set())
        elif verb == "drop":
            del drafts[name]
        elif verb == "let":
            drafts[name][1].add(tuple(rows))
        else:
            drafts[name][1].discard(tuple(rows))
    return drafts


def plain_show(draft):
    """What show tells of a draft."""
    many, pairs = draft
    found = [f"machines {many};"]
    for inputs in sorted({inputs for inputs, _ in pairs}):
        found.append("for " + " ".join(map(str, inputs)) + ";")
        found += ["let " + " ".join(map(str, row)) + ";" for each, row in sorted(pairs) if each == inputs]
    return "".join(found)


def random_line(source):
    """A line of the four kinds, undo, or show."""
    name = source.choice(("a", "bc", "zzzzzzzz"))
    verb = source.choice(("task", "let", "let", "let", "let", "let", "bar", "bar", "drop", "undo", "undo", "show"))
    if verb == "task":
        return f"task {name} {source.choice('345')}"
    if verb in ("let", "bar"):
        many = source.choice((3, 3, 3, 4, 5))
        return f"{verb} {name} " + " ".join(written(source.choices((0, 1), k=many)) for _ in range(2))
    return "undo" if verb == "undo" else f"{verb} {name}"


class Lines(Case):
    def test_by_hand(self):
        desk = Desk()
        self.assertEqual(desk.journal(), "")
        lines = ["task a 3", "let a 0,0,7 0,0,1", "let a 0,0,7 0,10,0", "let a 0,1,0 9999,0,0"]
        for line in lines:
            self.assertEqual(desk.tell(line), "ok")
        self.assertEqual(desk.tell("show a"),
                         "machines 3;for 0 0 7;let 0 0 1;let 0 10 0;for 0 1 0;let 9999 0 0;")
        self.assertEqual(desk.journal(), "".join(line + "\n" for line in lines))
        self.assertEqual(desk.tell("bar a 0,0,7 0,0,1"), "ok")
        self.assertEqual(desk.tell("bar a 0,1,0 9999,0,0"), "ok")
        # Inputs without a row that is let are none of the task.
        self.assertEqual(desk.tell("show a"), "machines 3;for 0 0 7;let 0 10 0;")
        self.assertEqual(desk.tell("undo"), "ok")
        self.assertEqual(desk.tell("show a"), "machines 3;for 0 0 7;let 0 10 0;for 0 1 0;let 9999 0 0;")
        self.assertEqual(desk.tell("drop a"), "ok")
        self.fails(NoName, desk.tell, "show a")
        self.assertEqual(desk.tell("undo"), "ok")
        self.assertEqual(desk.tell("task a 5"), "ok")
        self.assertEqual(desk.tell("show a"), "machines 5;")
        self.assertEqual(desk.tell("undo"), "ok")
        self.assertEqual(desk.tell("show a"), "machines 3;for 0 0 7;let 0 10 0;for 0 1 0;let 9999 0 0;")
        for _ in range(5):
            self.assertEqual(desk.tell("undo"), "ok")
        self.assertEqual(desk.journal(), "")
        self.fails(NoName, desk.tell, "show a")
        self.fails(NothingDone, desk.tell, "undo")

    def test_lines_by_which_nothing_turns_are_done(self):
        desk = desk_of(["task a 3", "let a 0,0,0 1,1,1", "let a 0,0,0 1,1,1", "bar a 0,0,0 2,2,2", "bar a 9,9,9 0,0,0"])
        self.assertEqual(desk.journal().count("\n"), 5)
        self.assertEqual(desk.tell("show a"), "machines 3;for 0 0 0;let 1 1 1;")
        for _ in range(3):
            desk.tell("undo")
            self.assertEqual(desk.tell("show a"), "machines 3;for 0 0 0;let 1 1 1;")
        desk.tell("undo")
        self.assertEqual(desk.tell("show a"), "machines 3;")

    def test_drafts_go_apart(self):
        desk = desk_of(["task a 3", "task b 4", "task task 5", "let b 0,0,0,0 1,1,1,1", "let a 0,0,0 1,1,1"])
        self.assertEqual([desk.tell("show " + name) for name in ("a", "b", "task")],
                         ["machines 3;for 0 0 0;let 1 1 1;", "machines 4;for 0 0 0 0;let 1 1 1 1;", "machines 5;"])
        other = desk_of(["task a 4"])
        desk.tell("drop a")
        self.assertEqual(other.tell("show a"), "machines 4;")

    def test_drawn_lines(self):
        source = Random(271)
        for _ in range(25):
            desk, done, kinds = Desk(), [], {}
            for _ in range(150):
                line = random_line(source)
                verb = line.split(" ")[0]
                drafts = plain_drafts(done)
                before = desk.journal()
                try:
                    told = desk.tell(line)
                except SilentError as error:
                    kind = type(error)
                    kinds[kind] = True
                    self.assertEqual(desk.journal(), before)
                    name = line.split(" ")[1] if verb != "undo" else None
                    if kind is NothingDone:
                        self.assertEqual((verb, done), ("undo", []))
                    elif kind is NoName:
                        self.assertNotIn(name, drafts)
                        self.assertEqual(error.name, name)
                    else:
                        self.assertIs(kind, NoRow)
                        self.assertNotEqual(line.split(" ")[2].count(",") + 1, drafts[name][0])
                else:
                    if verb == "show":
                        self.assertEqual(told, plain_show(drafts[line.split(" ")[1]]))
                    else:
                        self.assertEqual(told, "ok")
                        if verb == "undo":
                            done.pop()
                        else:
                            done.append(line)
                self.assertEqual(desk.journal(), "".join(each + "\n" for each in done))
                for name, draft in plain_drafts(done).items():
                    self.assertEqual(desk.tell("show " + name), plain_show(draft))
            found, many = recovered(desk.journal())
            self.assertEqual((found.journal(), many), (desk.journal(), len(desk.journal())))

    def test_names_of_1_to_8_letters(self):
        desk = Desk()
        for name in ("a", "z", "abcdefgh", "task", "undo", "ok"):
            desk.tell(f"task {name} 3")
            self.assertEqual(desk.tell("show " + name), "machines 3;")
        for name in ("", "abcdefghi", "A", "a1", "a_b", "a-b", "1", "a.", "ab~"):
            self.fails(NoLine, desk.tell, f"task {name} 3")
            self.fails(NoLine, desk.tell, "show " + name)


class Questions(Case):
    def check(self, task):
        """The questions are answered as the functions do."""
        desk = desk_of(drafted("a", task))
        before = desk.journal()
        found = plan(task)
        self.assertEqual(desk.tell("show a"), task_text(task).replace("\n", ";"))
        self.assertEqual(desk.tell("can a"), "no" if found is None else "yes")
        self.assertEqual(desk.tell("rounds a"), "none" if found is None else str(rounds_enough(task, found)))
        for inputs, lot in task.lots:
            self.assertEqual(desk.tell("parts a " + written(inputs)), str(len(parts(lot))))
        lots = silences(task)
        self.assertEqual(desk.tell("silences a"), " ".join(map(written, lots)) if lots else "none")
        if len(task.lots) > 10:
            self.assertEqual(self.fails(TooMany, desk.tell, "kernel a").most, 10)
        else:
            rows = kernel(task)
            self.assertEqual(desk.tell("kernel a"), "none" if rows is None else " ".join(map(written, rows)))
        self.assertEqual(desk.journal(), before)

    def test_families(self):
        for task in (leader(3), leader(5), agreement(3, 2), agreement(4, 2), few(3, 2, 2), near(3, 2), apart([2, 1, 3]),
                     apart([1] * 10), apart([1] * 11), apart([1] * 60)):
            self.check(task)

    def test_told_whole(self):
        desk = desk_of(drafted("a", agreement(3, 2)))
        self.assertEqual(desk.tell("can a"), "no")
        self.assertEqual(desk.tell("rounds a"), "none")
        self.assertEqual(desk.tell("kernel a"), "0,0,0 0,0,1 0,1,1 1,1,1")
        self.assertEqual(desk.tell("silences a"), "0,1,2")
        self.assertEqual(desk.tell("parts a 0,0,1"), "2")
        self.assertEqual(lot_of(agreement(3, 2), (0, 0, 1)), ((0, 0, 0), (1, 1, 1)))
        desk = desk_of(drafted("a", leader(4)))
        lines = ("can a", "rounds a", "kernel a", "silences a", "parts a 0,0,0,0")
        self.assertEqual([desk.tell(line) for line in lines], ["yes", "2", "none", "none", "4"])
        lots = {(0, 0, 0): [(0, 0, 0)], (0, 0, 1): [(1, 1, 1)], (1, 0, 0): [(2, 2, 2)]}
        desk = desk_of(drafted("a", task_of(3, lots)))
        self.assertEqual([desk.tell("silences a"), desk.tell("kernel a")], ["0 2", "0,0,0 0,0,1"])

    def test_empty(self):
        for lines in (["task a 3"], ["task a 3", "let a 0,0,0 1,1,1", "bar a 0,0,0 1,1,1"],
                      ["task a 4", "let a 0,0,0,0 1,1,1,1", "task a 3"]):
            desk = desk_of(lines)
            for line in ("can a", "rounds a", "kernel a", "silences a", "parts a 0,0,0"):
                self.fails(Empty, desk.tell, line)
            self.assertEqual(desk.tell("show a"), "machines 3;")
            self.assertEqual(desk.journal().count("\n"), len(lines))

    def test_what_the_functions_raise(self):
        desk = desk_of(drafted("a", leader(3)))
        self.fails(NoInputs, desk.tell, "parts a 0,0,1")
        self.fails(NoInputs, desk.tell, "parts a 9999,0,1")
        self.fails(NoRow, desk.tell, "parts a 10000,0,1")


class Wrongs(Case):
    def test_no_line(self):
        desk = desk_of(["task a 3", "let a 0,0,0 1,1,1"])
        before = desk.journal()
        wrong = [thing for thing in oddities() if type(thing) is not str] + oddities() + [
            "", " ", "undo ", " undo", "undo undo", "undo a", "Undo", "task a", "task a 3 3", "task a 2", "task a 6",
            "task a 03", "task a three", "task  a 3", "task a 3 ", " task a 3", "task a 3\n", "task 3 a", "task a 3,",
            "let a 0,0,0", "let a 0,0,0 0,0,0 0,0,0", "let a 0 0 0 0 0 0", "let a 0,0,00 0,0,0", "let a 0,0,0 0,0,01",
            "let a 0,,0 0,0,0", "let a ,0,0,0 0,0,0", "let a 0,0,0, 0,0,0", "let a 0,0,-1 0,0,0", "let a 0,0,x 0,0,0",
            "let a 0,0," + "1" * 13 + " 0,0,0", "let a 0,0,0 0,0," + "0" * 12, "let a 0,0,0 0,0,1.0", "let a  0,0,0",
            "let a (0,0,0) (0,0,0)", "let 0,0,0 0,0,0", "let a 0, 0,0 0,0,0", "bar a 0,0,0", "bar a 0,0,0 +1,0,0",
            "drop", "drop a b", "drop a ", "show", "show a a", "can", "can a 0,0,0", "rounds a 1", "parts a",
            "parts a 0,0,0 0,0,0", "parts a 0,0,x", "kernel", "kernel a 1", "silences", "silences a,b", "journal",
            "tell a", "task", "let", "bar", "a", "let A 0,0,0 0,0,0", "let abcdefghi 0,0,0 0,0,0", "show a\nshow a",
            "let a 0,0,0 0,0,0" + " " * 9000, "let a " + "9" * 9000 + " 0,0,0", ["task a 3"], ("undo",), b"undo",
            nested(30, lambda thing: [thing]), desk,
        ]
        for thing in wrong:
            self.fails(NoLine, desk.tell, thing)
        self.assertEqual(desk.journal(), before)

    def test_no_name(self):
        desk = desk_of(["task a 3", "task b 3", "drop b"])
        for name in ("b", "c", "aa", "taskaaaa"):
            for line in ("let {} 0,0,0 0,0,0", "bar {} 0,0 99999", "drop {}", "show {}", "can {}", "rounds {}",
                         "parts {} 0", "parts {} 0,0,0", "kernel {}", "silences {}"):
                self.assertEqual(self.fails(NoName, desk.tell, line.format(name)).name, name)
        self.assertEqual(desk.journal(), "task a 3\ntask b 3\ndrop b\n")

    def test_rows(self):
        for many in (3, 4, 5):
            desk = desk_of([f"task a {many}"])
            good = written((0,) * many)
            self.assertEqual(desk.tell(f"let a {good} {written((9999,) * many)}"), "ok")
            zeros = (0,) * (many - 1)
            for wrong in (written(zeros), written(zeros + (0, 0)), "0", written((10000,) + zeros),
                          written(zeros + (10 ** 12 - 1,)), written((0,) * 3000)):
                for line in (f"let a {wrong} {good}", f"let a {good} {wrong}", f"let a {wrong} {wrong}",
                             f"bar a {wrong} {good}", f"bar a {good} {wrong}", f"parts a {wrong}"):
                    self.fails(NoRow, desk.tell, line)
        # The row is looked at ahead of whether there are inputs.
        self.fails(NoRow, desk_of(["task a 3"]).tell, "parts a 0,0")
        self.fails(NoRow, desk_of(["task a 3"]).tell, "parts a 0,0,10000")

    def test_numbers_of_12_and_13_digits(self):
        desk = desk_of(["task a 3", "let a 0,0,0 0,0,0"])
        for verb in ("let", "bar"):
            self.fails(NoRow, desk.tell, f"{verb} a 0,0,0 0,0," + "9" * 12)
            self.fails(NoLine, desk.tell, f"{verb} a 0,0,0 0,0," + "9" * 13)
        self.fails(NoRow, desk.tell, "parts a 0,0," + "1" * 12)
        self.fails(NoLine, desk.tell, "parts a 0,0," + "1" * 13)
        # What is no line at all is told ahead of a name without a draft.
        self.fails(NoLine, desk.tell, "parts b 0,0," + "1" * 13)
        self.fails(NoName, desk.tell, "parts b 0,0," + "1" * 12)

    def test_60_inputs_and_rows_and_one_more(self):
        rows = [(k // 10, k % 10, 0) for k in range(61)]
        lines = ["task a 3"] + [f"let a {written(row)} 0,0,0" for row in rows[:60]]
        desk = desk_of(lines + [f"let a 0,0,0 {written(row)}" for row in rows[1:60]])
        before, shown = desk.journal(), desk.tell("show a")
        self.assertEqual(self.fails(TooMany, desk.tell, f"let a {written(rows[60])} 0,0,0").most, 60)
        self.assertEqual(self.fails(TooMany, desk.tell, f"let a 0,0,0 {written(rows[60])}").most, 60)
        self.assertEqual((desk.journal(), desk.tell("show a")), (before, shown))
        # A row that is let already is no more, and other lots have room.
        self.assertEqual(desk.tell(f"let a 0,0,0 {written(rows[59])}"), "ok")
        self.assertEqual(desk.tell(f"let a {written(rows[1])} {written(rows[60])}"), "ok")
        self.assertEqual(desk.tell("bar a 0,0,0 0,0,0"), "ok")
        self.assertEqual(desk.tell(f"let a 0,0,0 {written(rows[60])}"), "ok")
        self.assertEqual(desk.tell(f"bar a {written(rows[59])} 0,0,0"), "ok")
        self.assertEqual(desk.tell(f"let a {written(rows[60])} 0,0,0"), "ok")
        self.fails(TooMany, desk.tell, f"let a {written(rows[59])} 0,0,0")
        self.fails(NoRow, desk.tell, "let a 0,0 0,0,0")

    def test_nothing_done(self):
        desk = Desk()
        self.fails(NothingDone, desk.tell, "undo")
        desk.tell("task a 3")
        desk.tell("show a")
        desk.tell("undo")
        self.fails(NothingDone, desk.tell, "undo")
        self.assertEqual(desk.journal(), "")


class Recovered(Case):
    def test_what_is_told_again(self):
        lines = drafted("a", agreement(3, 2)) + ["task b 4", "drop b", "bar a 0,0,0 0,0,0"]
        text = "".join(line + "\n" for line in lines)
        desk, many = recovered(text)
        self.assertIs(type(desk), Desk)
        self.assertEqual((many, desk.journal()), (len(text), text))
        self.assertEqual(desk.tell("undo"), "ok")
        self.assertEqual(desk.tell("kernel a"), "0,0,0 0,0,1 0,1,1 1,1,1")
        self.assertEqual(recovered("")[1], 0)
        self.assertEqual(recovered("")[0].journal(), "")

    def test_each_place_to_stop_at(self):
        lines = ["task a 3", "let a 0,0,0 1,1,1", "bar a 0,0,0 1,1,1", "drop a"]
        closed = [line + "\n" for line in lines]
        for count in range(5):
            kept = "".join(closed[:count])
            name = "a" if 0 < count < 4 else "b"
            stops = ["", "x", "undo\n", "show a\n", "can a\n", "\n", "task a 3", "task a 3\r\n", "task a 9\n",
                     "drop c\n", "let c 0,0,0 0,0,0\n", f"let {name} 0,0 0,0,0\n", " task a 3\n", "task a 3 \n",
                     "kernel a\n", f"let {name} 0,0,10000 0,0,0\n", "tasks a 3\n", "undo"]
            for stop in stops:
                for rest in ("", "task a 3\n"):
                    if rest and not stop.endswith("\n"):
                        continue
                    desk, many = recovered(kept + stop + rest)
                    self.assertEqual((many, desk.journal()), (len(kept), kept))

    def test_lines_that_are_cut_at_each_sign(self):
        text = "".join(line + "\n" for line in drafted("a", few(3, 2, 1)))
        for size in range(len(text) + 1):
            desk, many = recovered(text[:size])
            whole = text[:size].rfind("\n") + 1
            self.assertEqual((many, desk.journal()), (whole, text[:whole]))

    def test_60_rows_and_one_more(self):
        lines = ["task a 3\n"] + [f"let a 0,0,0 {k},0,0\n" for k in range(61)]
        self.assertEqual(recovered("".join(lines))[1], sum(map(len, lines[:-1])))

    def test_drawn_journals(self):
        source = Random(272)
        for _ in range(40):
            lines = [random_line(source) for _ in range(60)]
            own, done = Desk(), []
            for line in lines:
                if line.split(" ")[0] not in CHANGES:
                    break
                try:
                    own.tell(line)
                except SilentError:
                    break
                done.append(line + "\n")
            desk, many = recovered("".join(line + "\n" for line in lines))
            self.assertEqual((desk.journal(), many), ("".join(done), len("".join(done))))

    def test_no_text(self):
        odd = [thing for thing in oddities() if type(thing) is not str]
        for thing in odd + [["task a 3\n"], b"task a 3\n", Desk()]:
            self.fails(NoText, recovered, thing)
        for text in (thing for thing in oddities() if type(thing) is str):
            self.assertEqual(recovered(text)[1], 0)

    def test_each_desk_is_new(self):
        one, other = recovered("task a 3\n")[0], recovered("task a 3\n")[0]
        one.tell("drop a")
        self.assertEqual(other.tell("show a"), "machines 3;")


class Deep(Case):
    def test_each_line_of_all_short_words(self):
        # No line of few words raises anything else than the errors that are told.
        words = ("task", "let", "bar", "drop", "undo", "show", "parts", "a", "3", "0,0,0", "")
        for count in range(1, 5):
            for line in product(words, repeat=count):
                desk = desk_of(["task a 3"])
                try:
                    self.assertIs(type(desk.tell(" ".join(line))), str)
                except (NoLine, NoName, NoRow, Empty):
                    continue
