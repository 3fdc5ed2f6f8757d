"""Point 26: texts of tasks, patterns and bars."""

from random import Random

from onesilent.algebra import beside, wider
from onesilent.bars import bar, is_bar
from onesilent.errors import BadTask, BadText, NoBar, NoNumber, NoPattern
from onesilent.families import agreement, few, leader, near
from onesilent.patterns import plain, shut_out
from onesilent.tasks import Task
from onesilent.texts import bar_text, pattern_text, read_bar, read_pattern, read_task, task_text
from tests.cases import Case
from tests.plain import plain_patterns, random_pattern
from tests.samples import apart, chained, deep_bar, nested, oddities, random_task, task_of, wide

TEXT = "machines 3\nfor 0 0 7\nlet 0 0 1\nlet 0 10 0\nfor 0 1 0\nlet 9999 0 0\n"


def odd_texts():
    """What is no string."""
    return [thing for thing in oddities() if type(thing) is not str] + [b"", ["machines 3"], ("",)]


def bent(text, source, count):
    """Texts bent in one sign: one left out, put in, or put in its place."""
    for _ in range(count):
        k = source.randrange(len(text))
        sign = source.choice(" \n01239-abf,;~")
        yield source.choice([text[:k] + text[k + 1:], text[:k] + sign + text[k:], text[:k] + sign + text[k + 1:]])


class TaskTexts(Case):
    def test_by_hand(self):
        task = task_of(3, {(0, 0, 7): [(0, 0, 1), (0, 10, 0)], (0, 1, 0): [(9999, 0, 0)]})
        self.assertEqual(task_text(task), TEXT)
        self.assertEqual(read_task(TEXT), task)
        self.assertIs(type(read_task(TEXT)), Task)

    def test_there_and_back(self):
        source = Random(261)
        for _ in range(60):
            task = random_task(source, source.choice((3, 4, 5)), 8, 3, 8)
            text = task_text(task)
            self.assertEqual(read_task(text), task)
            self.assertEqual(task_text(read_task(text)), text)
            lines = text.split("\n")
            self.assertEqual(lines[0], f"machines {task.many}")
            self.assertEqual(len(lines), 2 + sum(1 + len(lot) for _, lot in task.lots))

    def test_tasks_beyond_the_constructor(self):
        task = beside(near(3, 2), few(3, 2, 2))
        self.assertIn("\nfor 0 0 10001\n", task_text(task))
        self.assertEqual(self.fails(BadTask, read_task, task_text(task)).part, "lots")
        task = wider(leader(3), (((0, 0, 0), (0, 0, 10 ** 100)),))
        self.assertEqual(task_text(task).split("\n")[3], "let 0 0 1" + "0" * 100)

    def check_line(self, text, line):
        """The text is wrong in this line."""
        self.assertEqual(self.fails(BadText, read_task, text).line, line, text)

    def test_which_line_is_wrong(self):
        lines = TEXT.split("\n")[:-1]
        for number in range(len(lines)):
            words = lines[number].split(" ")
            for wrong in (
                lines[number] + " ", " " + lines[number], lines[number].replace(" ", "  ", 1), lines[number] + " 0", "",
                " ".join(words[:-1]), lines[number].upper(), lines[number].replace(" ", ",", 1), "so " + lines[number],
                " ".join(words[:-1] + ["00"]), " ".join(words[:-1] + ["01"]), " ".join(words[:-1] + ["-1"]),
                " ".join(words[:-1] + ["+1"]), " ".join(words[:-1] + ["x"]), " ".join(words[:-1] + ["1.0"]),
                " ".join(words[:-1] + ["1" * 13]), " ".join(words[:-1] + ["1_0"]), " ".join(words[:-1] + [""]),
                "forlet" + lines[number][3:], lines[number] + "\t", "x" * 9000, "9" * 9000,
            ):
                text = "\n".join(lines[:number] + [wrong] + lines[number + 1:]) + "\n"
                self.check_line(text, number + 1)
                # A later one that is wrong, and an open end, do not count.
                self.check_line(text + "wrong\nopen", number + 1)

    def test_lines_that_stand_where_they_cannot(self):
        self.check_line("for 0 0 0\nlet 0 0 0\n", 1)
        self.check_line("let 0 0 0\n", 1)
        self.check_line("for\n", 1)
        self.check_line("let\n", 1)
        self.check_line("machines 3\nlet 0 0 0\n", 2)
        self.check_line("machines 3\nmachines 3\n", 2)
        self.check_line("machines 3\nfor 0 0 0\nmachines 3\n", 3)
        self.check_line("\nmachines 3\n", 1)
        self.check_line("machines 3\n\nfor 0 0 0\nlet 0 0 0\n", 2)
        self.check_line(TEXT + "\n", 7)
        self.check_line(TEXT + TEXT, 7)
        self.check_line("machines 4\nfor 0 0 0\n", 2)
        self.check_line("machines 3\nfor 0 0 0 0\n", 2)
        self.check_line("machines 3\nfor 0 0 0\nlet 0 0\n", 3)
        self.check_line("machines\n", 1)
        self.check_line("machines 3 3\n", 1)

    def test_what_is_not_closed(self):
        self.check_line("", 1)
        self.check_line("machines 3", 1)
        self.check_line(TEXT[:-1], 6)
        self.check_line(TEXT + "x", 7)
        self.check_line(TEXT + " ", 7)
        self.check_line(TEXT + "let 0 0 0", 7)
        self.check_line("\n", 1)
        self.check_line("x" * 20000, 1)
        self.check_line("machines 3\n" * 1800, 2)

    def test_no_string(self):
        for thing in odd_texts():
            self.check_line(thing, 0)

    def check_task(self, text, part):
        """The text is of lines that are so, but no task comes of them."""
        self.assertEqual(self.fails(BadTask, read_task, text).part, part)

    def test_bad_tasks(self):
        for number in ("0", "1", "2", "6", "12", "9" * 12):
            self.check_task(f"machines {number}\n", "many")
        self.check_task("machines 2\nfor 0 0\nlet 0 0\n", "many")
        self.check_task("machines 6\nfor 0 0 0 0 0 0\n", "many")
        self.check_task("machines 0\nfor\nlet\n", "many")
        for many in (3, 4, 5):
            self.check_task(f"machines {many}\n", "lots")
        self.check_task("machines 3\nfor 0 0 0\n", 0)
        self.check_task("machines 3\nfor 0 0 0\nlet 0 0 0\nfor 0 0 1\n", 1)
        self.check_task("machines 3\nfor 0 0 0\nfor 0 0 1\nlet 0 0 0\n", 0)
        self.check_task("machines 3\nfor 0 0 1\nlet 0 0 0\nfor 0 0 0\nlet 0 0 0\n", 1)
        self.check_task("machines 3\nfor 0 0 1\nlet 0 0 0\nfor 0 0 1\nlet 0 0 0\n", 1)
        self.check_task("machines 3\nfor 0 0 1\nlet 0 0 1\nlet 0 0 0\n", 0)
        self.check_task("machines 3\nfor 0 0 1\nlet 0 0 0\nlet 0 0 0\n", 0)

    def test_numbers_of_few_and_of_many_digits(self):
        self.assertEqual(read_task("machines 3\nfor 0 0 9999\nlet 9999 0 0\n").lots, (((0, 0, 9999), ((9999, 0, 0),)),))
        for number in ("10000", "1" * 12):
            self.check_task(f"machines 3\nfor 0 0 {number}\nlet 0 0 0\n", 0)
            self.check_task(f"machines 3\nfor 0 0 0\nlet 0 0 {number}\n", 0)
        for number in ("1" * 13, "0" * 12, "00", "09999"):
            self.check_line(f"machines 3\nfor 0 0 {number}\nlet 0 0 0\n", 2)
            self.check_line(f"machines 3\nfor 0 0 0\nlet 0 0 {number}\n", 3)
            self.check_line(f"machines {number}\n", 1)

    def test_60_inputs_and_rows_and_one_more(self):
        for count in (60, 61):
            rows = [f"{k // 10} {k % 10} 0\n" for k in range(count)]
            lots = "machines 3\n" + "".join(f"for {row}let {row}" for row in rows)
            lot = "machines 3\nfor 0 0 0\n" + "".join(f"let {row}" for row in rows)
            if count == 60:
                self.assertEqual((len(read_task(lots).lots), len(read_task(lot).lots[0][1])), (60, 60))
            else:
                self.check_task(lots, "lots")
                self.check_task(lot, 0)

    def test_bent_in_one_sign(self):
        source = Random(262)
        kinds = {True: 0, False: 0}
        for text in bent(TEXT, source, 1500):
            try:
                task = read_task(text)
            except (BadText, BadTask):
                kinds[False] += 1
                continue
            # What is read has just this text.
            kinds[True] += 1
            self.assertEqual(task_text(task), text)
        self.assertGreater(min(kinds.values()), 100)


class PatternTexts(Case):
    def test_by_hand(self):
        self.assertEqual(pattern_text(((None, 0, 0), (2, None, 1))), "- 0 0\n2 - 1\n")
        self.assertEqual(pattern_text(()), "")
        self.assertEqual(read_pattern(3, "- 0 0\n2 - 1\n"), ((None, 0, 0), (2, None, 1)))
        self.assertEqual(pattern_text(shut_out(5, 2, 4)), "4 4 4 4 -\n4 4 4 4 -\n")

    def test_there_and_back(self):
        source = Random(263)
        for many in (3, 4, 5):
            self.assertEqual(read_pattern(many, ""), ())
            for _ in range(60):
                pattern = random_pattern(source, many, source.randint(0, 30))
                text = pattern_text(pattern)
                self.assertEqual(read_pattern(many, text), pattern)
                self.assertEqual(text.count("\n"), len(pattern))
        for pattern in plain_patterns(3, 1):
            self.assertEqual(read_pattern(3, pattern_text(pattern)), pattern)

    def test_30_and_31_lines(self):
        for many in (3, 4, 5):
            text = pattern_text(plain(many, 30))
            line = pattern_text(plain(many, 1))
            self.assertEqual(read_pattern(many, text), plain(many, 30))
            for more in (line, "x\n", "\n", line[:-1], line * 9, "x"):
                self.assertEqual(self.fails(BadText, read_pattern, many, text + more).line, 31)
            self.assertEqual(self.fails(BadText, read_pattern, many, "x\n" + text + line).line, 1)

    def test_no_pattern(self):
        for thing in [each for each in oddities() if each != () and each != ((None,) * 3,)] + [
            ((None,) * 3,) * 31, ((None,) * 2,), ((None,) * 6,), ((0, None, None),), ((None, 3, None),), [], "- - -",
            ((None, True, None),), ((None,) * 3, (None,) * 4), [(None,) * 3], ([None] * 3,), ((None, "0", None),),
        ]:
            self.fails(NoPattern, pattern_text, thing)

    def test_which_line_is_wrong(self):
        lines = ["- 0 1", "2 - -", "1 2 0"]
        for number in range(3):
            for wrong in ("", "-", "- -", "- - - -", "- - -1", "- - 3", "- - 2", "0 - -", "- -  -", " - - -", "- - - ",
                          "- - 00", "- - 01", "- - x", "-,-,-", "- - " + "1" * 13, "- - " + "0" * 12, "- - None",
                          "---", "- - --", "- - 1" + "0" * 9000):
                text = "".join(each + "\n" for each in lines[:number] + [wrong] + lines[number + 1:])
                self.assertEqual(self.fails(BadText, read_pattern, 3, text).line, number + 1)
                self.assertEqual(self.fails(BadText, read_pattern, 3, text + "x").line, number + 1)
            self.assertEqual(self.fails(BadText, read_pattern, 4, "\n".join(lines) + "\n").line, 1)
        for left in ("x", " ", "-", "- - -"):
            self.assertEqual(self.fails(BadText, read_pattern, 3, "- - -\n" + left).line, 2)
            self.assertEqual(self.fails(BadText, read_pattern, 3, left).line, 1)

    def test_the_number_is_looked_at_first(self):
        for many in [thing for thing in oddities() if type(thing) is not int] + [2, 6, True, "3", 10 ** 109, -3]:
            for text in ("", "x", None, [], "- - -\n"):
                self.fails(NoNumber, read_pattern, many, text)
        for thing in odd_texts():
            self.assertEqual(self.fails(BadText, read_pattern, 3, thing).line, 0)

    def test_bent_in_one_sign(self):
        source = Random(264)
        kinds = {True: 0, False: 0}
        for text in bent("- 0 1\n2 - -\n1 2 0\n", source, 1000):
            try:
                pattern = read_pattern(3, text)
            except BadText:
                kinds[False] += 1
                continue
            kinds[True] += 1
            self.assertEqual(pattern_text(pattern), text)
        self.assertGreater(min(kinds.values()), 20)


def plain_bar_text(thing):
    """The words of a bar, by recursion."""
    if thing[0] == "bare":
        return " ".join(["bare", str(thing[1][0]), *map(str, thing[1][1])])
    return " ".join(["parts", *map(str, thing[1]), *map(plain_bar_text, thing[2])])


class BarTexts(Case):
    def test_by_hand(self):
        task = task_of(3, {(0, 0, 7): [(0, 0, 0)], (0, 0, 8): [(1, 1, 1)]})
        thing = ("parts", (0, 0, 7), (("parts", (0, 0, 8), (("bare", (2, (0, 0))),)),))
        text = "parts 0 0 7 parts 0 0 8 bare 2 0 0\n"
        self.assertIs(is_bar(task, thing), True)
        self.assertEqual(bar_text(task, thing), text)
        self.assertEqual(read_bar(task, text), thing)

    def test_there_and_back(self):
        source = Random(265)
        count = 0
        while count < 60:
            task = random_task(source, source.choice((3, 3, 4, 5)), 8, 2, 4)
            thing = bar(task)
            if thing is not None:
                count += 1
                text = bar_text(task, thing)
                self.assertEqual(text, plain_bar_text(thing) + "\n")
                self.assertEqual(read_bar(task, text), thing)

    def test_families(self):
        both = beside(leader(3), agreement(3, 2))
        for task in (agreement(3, 2), agreement(3, 3), agreement(4, 2), few(3, 3, 1), both):
            thing = bar(task)
            text = bar_text(task, thing)
            self.assertEqual(text, plain_bar_text(thing) + "\n")
            self.assertEqual(read_bar(task, text), thing)

    def test_deep_bars(self):
        # A bar that asks for all inputs one behind another, each of one part but the last two.
        for count in (300, 2500):
            table = {(k, k, 0): [(0, 0, 0)] for k in range(count)}
            table[(count, 0, 0)] = [(0, 0, 0)]
            table[(count, 0, 1)] = [(1, 1, 1)]
            task = wide(3, table)
            thing = ("bare", (2, (count, 0)))
            for inputs in sorted(table):
                thing = ("parts", inputs, (thing,))
            text = bar_text(task, thing)
            self.assertEqual(text.count("parts"), count + 2)
            found = read_bar(task, text)
            self.assertEqual(bar_text(task, found), text)
            while found[0] == "parts":
                self.assertEqual(found[1], thing[1])
                found, thing = found[2][0], thing[2][0]
            self.assertEqual(found, thing)
            self.assertEqual(self.fails(BadText, read_bar, task, text.replace("bare 2", "bare 1")).line, 1)
        for count in (20, 60):
            task = chained(count, 2)
            self.assertEqual(bar_text(task, read_bar(task, bar_text(task, bar(task)))), bar_text(task, bar(task)))

    def test_no_bar(self):
        task = agreement(3, 2)
        good = bar(task)
        for thing in oddities() + [None, list(good), good + (1,), good[:2], good[2], ("bare", (0, (0, 0))), good[2][0],
                                   (good[0], good[1], list(good[2])), (good[0], list(good[1]), good[2]),
                                   ("Parts", *good[1:]), (good[0], (5, 5, 5), good[2]), bar(agreement(3, 3)),
                                   bar(chained(6, 2)), (good[0], good[1], good[2] + good[2]), deep_bar(1000)]:
            self.fails(NoBar, bar_text, task, thing)
        for task in (leader(3), apart([2, 1])):
            for thing in (good, None, ("bare", (0, (0, 0)))):
                self.fails(NoBar, bar_text, task, thing)

    def check_line(self, task, thing, line):
        """The thing is no text of a bar."""
        self.assertEqual(self.fails(BadText, read_bar, task, thing).line, line)

    def test_bad_texts(self):
        task = agreement(3, 2)
        text = bar_text(task, bar(task))
        for wrong in ("", "\n", text[:-1], text + "\n", "\n" + text, text * 2, text[:-1] + text, " " + text, "parts",
                      text[:-1] + " \n", text.replace(" ", "  ", 1), text.replace("parts", "part", 1), "bare 0 0 0\n",
                      text.replace("bare", "bear", 1), text.replace(" 0", " 00", 1), text.replace(" 1", " 01", 1),
                      text + "x", text[:-1] + " bare 0 0 0\n", text.replace(" ", "\n", 1), "parts\n", "bare\n",
                      "parts 0 0 0\n", "parts 0 0\n", text.upper(), text.replace("bare 0", "bare 3"), "x" * 20000,
                      "parts 0 0 " + "1" * 13 + "\n", "parts 0 0 " + "9" * 10000 + "\n", "parts 0 0 1 " * 1500 + "\n",
                      " ".join(text[:-1].split(" ")[:-4]) + "\n", " ".join(text[:-1].split(" ")[4:]) + "\n"):
            if wrong != text:
                self.check_line(task, wrong, 1)
        self.check_line(leader(3), text, 1)
        self.check_line(agreement(3, 3), text, 1)
        self.check_line(agreement(4, 2), text, 1)
        self.check_line(agreement(4, 2), bar_text(task, bar(task)), 1)
        self.check_line(leader(3), "bare 0 0 0\n", 1)
        for thing in odd_texts():
            self.check_line(task, thing, 0)
            self.check_line(leader(3), thing, 0)

    def test_bent_in_one_sign(self):
        source = Random(266)
        for task in (agreement(3, 2), chained(6, 2), task_of(3, {(0, 0, 0): [(0, 0, 0)], (0, 0, 1): [(1, 1, 1)]})):
            text = bar_text(task, bar(task))
            for wrong in bent(text, source, 400):
                try:
                    found = read_bar(task, wrong)
                except BadText as error:
                    self.assertEqual(error.line, 1)
                    continue
                self.assertIs(is_bar(task, found), True)
                self.assertEqual(bar_text(task, found), wrong)


class Depths(Case):
    def test_deep_things(self):
        for make in (lambda thing: (thing,), lambda thing: [thing], lambda thing: {0: thing}):
            thing = nested(30, make)
            self.assertEqual(self.fails(BadText, read_task, thing).line, 0)
            self.assertEqual(self.fails(BadText, read_pattern, 3, thing).line, 0)
            self.assertEqual(self.fails(BadText, read_bar, leader(3), thing).line, 0)
            self.fails(NoPattern, pattern_text, thing)
            self.fails(NoPattern, pattern_text, (thing,))
            self.fails(NoBar, bar_text, leader(3), thing)
