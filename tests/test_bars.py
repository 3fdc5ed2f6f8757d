"""Point 10: bars."""

from itertools import product
from random import Random

from onesilent.bars import bar, is_bar
from onesilent.plans import plan
from onesilent.tasks import Task, inputs_of
from tests.cases import Case
from tests.plain import bar_size, is_plain_bar
from tests.samples import agreement, apart, chained, climbing, deep_bar, few, leader, near, oddities, random_task
from tests.samples import task_of, wide

BARE = ("bare", (0, (0, 0)))


def split():
    """Two inputs that share a rest which has no cover: one has two parts, the other one has one."""
    return task_of(3, {(0, 0, 0): [(0, 0, 0), (0, 1, 1)], (1, 0, 0): [(0, 2, 2)]})


def walked(thing):
    """All bars of a bar, each with the way to it."""
    waiting = [((), thing)]
    while waiting:
        way, each = waiting.pop()
        yield way, each
        if each[0] == "parts":
            waiting.extend((way + (k,), below) for k, below in enumerate(each[2]))


def replaced(thing, way, other):
    """The bar with another thing at the end of this way."""
    if not way:
        return other
    below = list(thing[2])
    below[way[0]] = replaced(below[way[0]], way[1:], other)
    return (thing[0], thing[1], tuple(below))


def bent(task, each):
    """Things that are unlike a bar in one place."""
    if each[0] == "bare":
        i, others = each[1]
        return [("bare",), ("bare", each[1], ()), ["bare", each[1]], ("Bare", each[1]), ("bare", [i, others]), None,
                ("bare", (i, list(others))), ("bare", (i + 1, others)), ("bare", (i, others + (0,))), ("bare", i),
                ("bare", (i, (99,) * len(others))), ("parts", each[1]), (True, each[1]), ("bare", None), (), "bare",
                ("bare", (bool(i), others)) if i < 2 else 7, ("bare", (i, tuple(bool(k) for k in others)))]
    _, inputs, bars = each
    found = [("parts", inputs), ("parts", inputs, bars, ()), ["parts", inputs, bars], ("part", inputs, bars),
             ("parts", list(inputs), bars), ("parts", inputs, list(bars)), ("parts", inputs, bars[:-1]),
             ("parts", inputs, bars + bars[-1:]), ("parts", inputs, ()), ("parts", (99,) * len(inputs), bars),
             ("parts", tuple(bool(k) for k in inputs), bars), ("parts", inputs[:-1], bars), ("parts", inputs, None),
             ("parts", inputs, dict(enumerate(bars))), ("bare", inputs, bars), ("parts", inputs, (None,) * len(bars)),
             ("parts", inputs, (each,) * len(bars)), ("bare", (0, inputs[1:])), bars]
    return found + [("parts", other, bars) for other in inputs_of(task) if other != inputs][:4]


class Bars(Case):
    def check(self, task):
        """There is a bar, by the words of the document."""
        found = bar(task)
        self.assertIs(type(found), tuple)
        self.assertTrue(is_plain_bar(task, found))
        self.assertIs(is_bar(task, found), True)
        return found

    def test_just_one_of_plan_and_bar_is_there(self):
        source = Random(101)
        told = {True: 0, False: 0}
        for number in range(250):
            many = (3, 3, 4, 5)[number % 4]
            task = random_task(source, many, 7, 3 if many == 3 else 2, source.choice((3, 5, 9)))
            has_plan = plan(task) is not None
            told[has_plan] += 1
            if has_plan:
                self.assertIsNone(bar(task))
            else:
                self.check(task)
        self.assertGreater(min(told.values()), 60)

    def test_no_bar_where_there_is_a_plan(self):
        for task in (leader(), agreement(3, 1), agreement(5, 1), apart([3, 2, 1]), few(3, 3, 2), near(3, 3)):
            self.assertIsNone(bar(task))

    def test_a_bar_where_there_is_no_plan(self):
        for task in (agreement(3, 2), agreement(4, 2), agreement(5, 2), agreement(3, 3), few(3, 3, 1), split()):
            self.check(task)

    def test_one_of_few_inputs(self):
        found = self.check(split())
        self.assertEqual(bar_size(found), 4 if found[1] == (1, 0, 0) else 5)
        self.assertEqual({each for _, each in walked(found) if each[0] == "bare"}, {BARE})
        alone = task_of(3, {(0, 0, 0): [(0, 0, 0)], (0, 0, 1): [(1, 1, 1)]})
        rest = (2, (0, 0))
        one = ("parts", (0, 0, 0), (("parts", (0, 0, 1), (("bare", rest),)),))
        other = ("parts", (0, 0, 1), (("parts", (0, 0, 0), (("bare", rest),)),))
        self.assertIn(bar(alone), (one, other))
        self.assertIs(is_bar(alone, one), True)
        self.assertIs(is_bar(alone, other), True)

    def test_bars_of_families_stay_small(self):
        for task, most in ((agreement(3, 2), 40), (agreement(5, 2), 80), (wide(3, dict(agreement(3, 3).lots)), 100)):
            self.assertLess(bar_size(bar(task)), most)

    def test_a_rest_that_many_inputs_complete(self):
        # Each bare bar asks for sixty inputs of two parts, but for a rest that two of them complete alone.
        table = {(k, 0, 0): [(0, 0, 0), (k, 1, 1)] for k in range(59)}
        table[(59, 0, 0)] = [(0, 2, 2), (0, 3, 3)]
        found = bar(task_of(3, table))
        self.assertEqual((found[0], len(found[2])), ("parts", 2))
        table[(59, 0, 1)] = [(5, 5, 5)]
        del table[(58, 0, 0)]
        small = task_of(3, table)
        self.assertIs(is_bar(small, bar(small)), True)
        self.assertLess(bar_size(bar(small)), 100)

    def test_numbers_beyond_the_constructor(self):
        shift = 10 ** 109
        task = wide(3, {(shift + x, -shift, x): [(shift * x,) * 3] for x in range(2)} | {
            (shift, -shift, 1): [(0, 0, 0), (shift, shift, shift)]})
        self.check(task)


class DeepBars(Case):
    def test_sixty_inputs_one_behind_another(self):
        for width in (2, 3, 7):
            task = chained(60, width)
            self.assertEqual(len(inputs_of(task)), 60)
            found = bar(task)
            self.assertIs(is_bar(task, found), True)
            deepest = max(len(way) for way, _ in walked(found))
            self.assertGreater(deepest, 30)
            self.assertLess(bar_size(found), 60 * (width + 1))

    def test_far_deeper_than_recursion_goes(self):
        task = wide(3, {((k + 1) // 2, k // 2, 0): [(0, 0, 0), (1, 1, 1)] if k else [(0, 0, 0)] for k in range(1500)})
        task.lots = task.lots[:-1] + (((750, 749, 0), ((1, 1, 1),)),)
        found = bar(task)
        self.assertIs(is_bar(task, found), True)
        self.assertIs(is_bar(task, ("parts", (0, 0, 0), (found,))), False)

    def test_made_by_someone_else(self):
        task = chained(60, 2)
        asked = [((k + 1) // 2, k // 2, 0) for k in range(60)]
        made = ("bare", (0, asked[-1][1:]) if asked[-1][1:] == asked[-2][1:] else (1, (30, 0)))
        for k in reversed(range(60)):
            if k in (0, 59):
                made = ("parts", asked[k], (made,))
            else:
                i = 0 if asked[k][1:] == asked[k - 1][1:] else 1
                rest = (i, asked[k][1:] if i == 0 else (asked[k][0], 0))
                made = ("parts", asked[k], (made, ("bare", rest)))
        self.assertIs(is_bar(task, made), True)
        self.assertIs(is_bar(task, ("parts", (0, 0, 0), (made,))), False)
        self.assertIs(is_bar(chained(60, 3), made), False)

    def test_deep_things_that_are_none(self):
        task = task_of(3, {(0, 0, 0): [(0, 0, 0)], (0, 0, 1): [(0, 1, 1)]})
        for depth in (1, 2, 3, 30, 1000, 20000):
            self.assertIs(is_bar(task, deep_bar(depth)), False)
        deep = ()
        for _ in range(20000):
            deep = (deep,)
        for thing in (deep, ("parts", (0, 0, 0), deep), ("parts", deep, (deep,)), ("bare", deep), (deep, deep),
                      ("bare", (0, deep)), ("bare", (deep, (0, 0))), (deep, (0, 0, 0), (deep,))):
            self.assertIs(is_bar(task, thing), False)


class Judged(Case):
    def test_no_bars(self):
        for task in (leader(), split(), agreement(4, 2)):
            for thing in oddities() + [bar(split()), BARE, ("parts", (0, 0, 0), (BARE, BARE))]:
                self.assertIs(is_bar(task, thing), task == split() and thing == bar(split()))

    def test_bent_in_one_place(self):
        for task in (split(), agreement(3, 2), few(3, 3, 1), agreement(4, 2), climbing(3, 5)):
            found = bar(task)
            if found is None:
                continue
            for way, each in walked(found):
                for other in bent(task, each):
                    thing = replaced(found, way, other)
                    self.assertIs(is_bar(task, thing), is_plain_bar(task, thing), (way, other))
            for odd in oddities():
                self.assertIs(is_bar(task, replaced(found, (0,) if found[2] else (), odd)), False)

    def test_flags_are_no_integers(self):
        task = task_of(3, {(0, 0, 0): [(0, 0, 0)], (0, 0, 1): [(1, 1, 1)]})
        rest = (2, (0, 0))
        for one, other, bare in (((0, 0, 0), (0, 0, 1), (2, (0, False))), ((0, 0, False), (0, 0, 1), rest),
                                 ((0, 0, 0), (0, 0, True), rest)):
            self.assertIs(is_bar(task, ("parts", one, (("parts", other, (("bare", bare),)),))), False)

    def test_inputs_are_asked_for_once(self):
        task = split()
        low = ("parts", (1, 0, 0), (BARE,))
        right = ("parts", (0, 0, 0), (low, low))
        self.assertIs(is_bar(task, right), True)
        self.assertIs(is_bar(task, ("parts", (0, 0, 0), (low, ("parts", (0, 0, 0), (low, low))))), False)
        self.assertIs(is_bar(task, ("parts", (1, 0, 0), (right,))), False)
        # Asked for in one branch, inputs may be asked for in the other one as well.
        self.assertIs(is_bar(task, ("parts", (1, 0, 0), (("parts", (0, 0, 0), (BARE, BARE)),))), True)

    def test_inputs_that_bar_nothing_may_be_asked_for(self):
        table = dict(split().lots)
        table[(5, 5, 5)] = [(0, 0, 0), (1, 1, 1), (2, 2, 2)]
        task = task_of(3, table)
        low = ("parts", (1, 0, 0), (BARE,))
        right = ("parts", (0, 0, 0), (low, low))
        for count in range(5):
            self.assertIs(is_bar(task, ("parts", (5, 5, 5), (right,) * count)), count == 3)

    def test_all_completing_inputs_are_asked_for(self):
        task = split()
        self.assertIs(is_bar(task, ("parts", (0, 0, 0), (BARE, BARE))), False)
        self.assertIs(is_bar(task, ("parts", (1, 0, 0), (BARE,))), False)
        self.assertIs(is_bar(task, BARE), False)

    def test_a_rest_with_a_cover_is_not_bare(self):
        task = task_of(3, {(0, 0, 0): [(0, 0, 0), (0, 1, 1)], (1, 0, 0): [(0, 1, 1)], (1, 0, 1): [(5, 5, 5)]})
        for numbers in product(range(2), repeat=2):
            branches = [("parts", (1, 0, 0), (BARE,)), ("parts", (1, 0, 0), (("parts", (1, 0, 1), ((
                "bare", (2, (1, 0))),)),))]
            thing = ("parts", (0, 0, 0), tuple(branches[number] for number in numbers))
            self.assertIs(is_bar(task, thing), numbers[1] == 1)

    def test_of_sixty_parts(self):
        lot = tuple((k, k, k) for k in range(60))
        task = Task(3, (((0, 0, 0), lot), ((0, 0, 1), tuple((k, k + 1, k) for k in range(60)))))
        found = bar(task)
        self.assertEqual(bar_size(found), 1 + 60 + 3600)
        self.assertIs(is_bar(task, found), True)
        self.assertIs(is_bar(task, replaced(found, (59, 59), ("bare", (1, (0, 1))))), False)
