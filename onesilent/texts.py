"""Texts of tasks, patterns and bars."""

from onesilent.bars import is_bar
from onesilent.checks import check_number, is_any_pattern
from onesilent.errors import BadText, NoBar, NoPattern
from onesilent.lots import parts
from onesilent.tasks import Task, rests
from onesilent.values import MOST_ROUNDS, is_turn
from onesilent.words import line_of, lines_in, number_in, numbers_in, words_of


def task_text(task):
    """Tell the text of a task."""
    lines = [line_of(["machines", str(task.many)])]
    for inputs, lot in task.lots:
        lines.append(line_of(["for"] + words_of(inputs)))
        lines.extend([line_of(["let"] + words_of(row)) for row in lot])
    return "".join(lines)


def read_task(text):
    """Tell the task of a text."""
    lines, left = lines_in(text)
    many = 0
    lots = []
    for at, line in enumerate(lines):
        words = line.split(" ")
        row = numbers_in(words[1:])
        if row is None:
            raise BadText(at + 1)
        if words[0] == "machines" and at == 0 and len(row) == 1:
            many = row[0]
        elif words[0] == "for" and at > 0 and len(row) == many:
            lots.append((row, []))
        elif words[0] == "let" and lots and len(row) == many:
            lots[-1][1].append(row)
        else:
            raise BadText(at + 1)
    if left or not lines:
        raise BadText(len(lines) + 1)
    return Task(many, tuple([(inputs, tuple(lot)) for inputs, lot in lots]))


def pattern_text(pattern):
    """Tell the text of a pattern."""
    if not is_any_pattern(pattern):
        raise NoPattern()
    return "".join([line_of(["-" if missed is None else str(missed) for missed in turn]) for turn in pattern])


def read_pattern(many, text):
    """Tell the pattern of a text."""
    check_number(many, 3, 5)
    lines, left = lines_in(text)
    turns = []
    for at, line in enumerate(lines):
        # What is no number gets one that no machine has.
        turn = tuple([None if word == "-" else _machine_in(word) for word in line.split(" ")])
        if at == MOST_ROUNDS or not is_turn(turn, many):
            raise BadText(at + 1)
        turns.append(turn)
    if left:
        raise BadText(len(lines) + 1)
    return tuple(turns)


def bar_text(task, bar):
    """Tell the text of a bar for a task."""
    if not is_bar(task, bar):
        raise NoBar()
    words = []
    waiting = [bar]
    while waiting:
        item = waiting.pop()
        if item[0] == "parts":
            words.extend(_parts_words(item[1]))
            waiting.extend(item[2][::-1])
        else:
            words.extend(_bare_words(item[1]))
    return line_of(words)


def read_bar(task, text):
    """Tell the bar for a task of a text."""
    lines, left = lines_in(text)
    if len(lines) != 1 or left:
        raise BadText(1)
    found = _bar_in(task, lines[0].split(" "))
    if found is None or not is_bar(task, found):
        raise BadText(1)
    return found


def _machine_in(word):
    """Tell the number that a word is, -1 if it is none."""
    number = number_in(word)
    return -1 if number is None else number


def _parts_words(inputs):
    """List the words with which a bar begins that asks for these inputs."""
    return ["parts"] + words_of(inputs)


def _bare_words(rest):
    """List the words of a bar that tells this rest."""
    return ["bare", str(rest[0])] + words_of(rest[1])


def _bar_in(task, words):
    """Tell what looks like the bar of some words, None if nothing does."""
    asked = {tuple(_parts_words(inputs)): (inputs, len(parts(lot))) for inputs, lot in task.lots}
    bare = {tuple(_bare_words(rest)): rest for rest in rests(task)}
    # Each bar begins with as many words, or has no more of them.
    width = task.many + 1
    waiting = []
    for start in range(0, len(words), width):
        begin = tuple(words[start:start + width])
        if begin in asked:
            waiting.append((asked[begin], []))
        elif begin in bare:
            found = _closed(waiting, ("bare", bare[begin]))
            if not waiting:
                return found if start + width == len(words) else None
        else:
            return None
    return None


def _closed(waiting, found):
    """Put a bar into the innermost one that waits for bars; tell the last one that nothing else is waited for in."""
    while waiting:
        (inputs, count), bars = waiting[-1]
        bars.append(found)
        if len(bars) < count:
            return None
        waiting.pop()
        found = ("parts", inputs, tuple(bars))
    return found
