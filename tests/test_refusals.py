"""Point 19: refusals, the fewest rounds, and the span."""

from itertools import product
from random import Random

from onesilent.errors import NoNumber, NoPlan, TooMany
from onesilent.making import longest
from onesilent.patterns import plain
from onesilent.plans import plan
from onesilent.refusals import fewest_rounds, is_refusal, refusal, span
from onesilent.tasks import inputs_of, lot_of
from onesilent.views import is_table, table
from tests.cases import Case
from tests.plain import is_plain_refusal, plain_view, refusal_size
from tests.samples import agreement, apart, are_neighbours, chained, climb, climbing, deep_bar, few, leader, near
from tests.samples import oddities, plain_parts, plain_rest, random_task, silent_folk, task_of, wide
from tests.test_making import along, planned_tasks
from tests.test_views import NO_ROUNDS, even

BIG = 10 ** 109 + 7


def walked(thing):
    """All refusals of a refusal, each with the way to it."""
    waiting = [((), thing)]
    while waiting:
        way, each = waiting.pop()
        yield way, each
        if each[0] == "view":
            waiting.extend((way + (value,), below) for value, below in each[3].items())


def replaced(thing, way, other):
    """The refusal with another thing at the end of this way."""
    if not way:
        return other
    return thing[:3] + ({**thing[3], way[0]: replaced(thing[3][way[0]], way[1:], other)},)


def bent(each):
    """Things that are no refusals anywhere, unlike a refusal in one place."""
    if each[0] == "run":
        _, inputs, pattern = each
        return [("run", inputs), ("run", inputs, pattern, ()), ["run", inputs, pattern], ("runs", inputs, pattern),
                ("run", list(inputs), pattern), ("run", inputs, list(pattern)), ("run", (99,) * len(inputs), pattern),
                ("run", inputs, pattern * 2 + plain(len(inputs), 1)), ("run", None, pattern),
                ("run", inputs, pattern + plain(len(inputs), 1)),
                ("run", tuple(bool(k) for k in inputs), pattern), ("run", inputs, None), ("run", inputs[1:], pattern),
                ("run", inputs, tuple(list(turn) for turn in pattern) or []), ("view", inputs, pattern), "run", None,
                ("run", inputs, tuple((0,) * len(inputs) for _ in pattern) or None), (), {"run": (inputs, pattern)},
                ("run", pattern, inputs), (True, inputs, pattern)]
    _, me, view, below = each
    first = list(below)[0]
    return [("view", me, view), ("view", me, view, below, ()), ["view", me, view, below], ("views", me, view, below),
            ("view", bool(me), view, below) if me < 2 else 0, ("view", 99, view, below), ("view", -1, view, below),
            ("view", me, list(view), below), ("view", me, view[:-1], below), ("view", me, view + (None,), below),
            ("view", me, (99,), below), ("view", me, (view,), below), ("view", me, view, list(below.items())),
            ("view", me, view, tuple(below.values())), ("view", me, view, {}), ("view", me, view, None), each[3],
            ("view", me, view, {value: below[value] for value in below if value != first}), ("run", me, view),
            ("view", me, view, {**below, 999: below[first]}), ("view", me, view, {**below, "0": below[first]}),
            ("view", me, view, {(999 if value == first else value): below[value] for value in below}),
            ("view", me, view, {**below, first: None}), ("view", me, view, {**below, first: [below[first]]}),
            ("view", me, view, {**below, first: each}), ("view", str(me), view, below), ("view", me, None, below)]


class Refusals(Case):
    def check(self, task, rounds):
        """There is a refusal, by the words of the document."""
        found = refusal(task, rounds)
        self.assertIs(type(found), tuple)
        self.assertTrue(is_plain_refusal(task, rounds, found))
        self.assertIs(is_refusal(task, rounds, found), True)
        self.assertIsNone(table(task, rounds))
        return found

    def test_just_one_of_table_and_refusal_is_there(self):
        source = Random(191)
        told = {True: 0, False: 0}
        for number in range(120):
            many = (3, 3, 4)[number % 3]
            task = random_task(source, many, 4 if many == 3 else 2, 2, source.choice((3, 5, 10)))
            for rounds in (0, 1):
                has_table = table(task, rounds) is not None
                told[has_table] += 1
                if has_table:
                    self.assertIsNone(refusal(task, rounds))
                    self.assertIs(is_table(task, rounds, table(task, rounds)), True)
                else:
                    self.check(task, rounds)
        self.assertGreater(min(told.values()), 20)

    def test_families(self):
        for task, rounds in ((agreement(3, 2), 0), (agreement(3, 2), 1), (agreement(3, 3), 0), (near(3, 3), 0),
                             (few(3, 3, 2), 0), (climbing(3, 3), 1), (climbing(3, 7), 1)):
            self.check(task, rounds)
        for task, rounds in ((leader(), 0), (leader(), 2), (near(3, 3), 1), (few(3, 3, 2), 1), (climbing(3, 2), 1)):
            self.assertIsNone(refusal(task, rounds))

    def test_of_larger_tasks(self):
        for task, rounds, most in ((near(3, 4), 1, 5000), (agreement(3, 3), 1, 1000), (agreement(4, 2), 1, 1000),
                                   (climbing(3, 40), 1, 50000), (chained(60, 2), 0, 5000)):
            found = refusal(task, rounds)
            self.assertIs(is_refusal(task, rounds, found), True)
            self.assertLess(refusal_size(found), most)

    def test_of_drawn_tasks_with_many_rows(self):
        source = Random(195)
        rows, cells = list(product(range(4), repeat=3)), list(product(range(2), repeat=3))
        found = 0
        while found < 60:
            task = task_of(3, {cell: source.sample(rows, source.randint(5, 12)) for cell in source.sample(cells, 7)})
            thing = refusal(task, 1)
            if thing is not None:
                found += 1
                self.assertIs(is_refusal(task, 1, thing), True)

    def test_by_hand(self):
        task = task_of(3, {(0, 0, 0): [(0, 0, 0)], (0, 0, 1): [(1, 1, 1)]})
        found = self.check(task, 0)
        self.assertEqual({each[0] for _, each in walked(found)}, {"view", "run"})
        self.assertTrue(all(set(each[3]) == {0, 1} for _, each in walked(found) if each[0] == "view"))
        one = ("run", (0, 0, 0), ())
        other = ("run", (0, 0, 1), ())
        low = ("view", 2, (1,), {0: other, 1: other})
        high = ("view", 2, (0,), {0: one, 1: one})
        right = ("view", 0, (0,), {0: ("view", 1, (0,), {0: low, 1: low}), 1: ("view", 1, (0,), {0: high, 1: high})})
        self.assertIs(is_refusal(task, 0, right), True)
        wrong = ("view", 0, (0,), {1: ("view", 1, (0,), {0: low, 1: low}), 0: ("view", 1, (0,), {0: high, 1: high})})
        self.assertIs(is_refusal(task, 0, wrong), False)
        again = ("view", 0, (0,), {0: ("view", 0, (0,), {0: low, 1: low}), 1: ("view", 1, (0,), {0: high, 1: high})})
        self.assertIs(is_refusal(task, 0, again), False)

    def test_views_that_bar_nothing_may_be_asked_for(self):
        task = task_of(3, {(0, 0, 0): [(0, 0, 0)], (0, 0, 1): [(1, 1, 1)], (5, 5, 5): [(0, 0, 0), (7, 1, 1)]})
        found = self.check(task, 0)
        for values, right in (((0, 1, 7), True), ((0, 1), False), ((0, 1, 7, 8), False), ((0, 1, 5), False)):
            thing = ("view", 0, (5,), {value: found for value in values})
            self.assertIs(is_refusal(task, 0, thing), right)
        self.assertIs(is_refusal(task, 0, ("view", 1, (5,), {0: found, 1: found})), True)
        self.assertIs(is_refusal(task, 0, ("view", 1, (1,), {0: found, 1: found})), False)
        self.assertIs(is_refusal(task, 0, ("view", 3, (5,), {0: found, 1: found})), False)

    def test_each_dict_is_new(self):
        task = agreement(3, 2)
        found = refusal(task, 1)
        dicts = [each[3] for _, each in walked(found) if each[0] == "view"]
        self.assertEqual(len({id(each) for each in dicts}), len(dicts))
        kept = refusal_size(found)
        for each in dicts:
            each.clear()
        self.assertEqual(refusal_size(refusal(task, 1)), kept)
        self.assertIs(is_refusal(task, 1, found), False)
        self.assertIs(is_refusal(task, 1, refusal(task, 1)), True)

    def test_as_deep_as_they_come(self):
        # Views that bar nothing are asked for, one behind another, ahead of those that do.
        lots = {(k,) * 4: [(0, 0, 0, 0)] for k in range(99)}
        task = wide(4, {**lots, (0, 0, 0, 99): [(1, 0, 0, 0)]})
        thing = refusal(task, 0)
        for k in range(1, 99):
            for me in (1, 2, 3):
                thing = ("view", me, (k,), {0: thing})
        self.assertIs(is_refusal(task, 0, thing), True)
        self.assertGreater(max(len(way) for way, _ in walked(thing)), 294)
        self.assertIs(is_refusal(task, 0, ("view", 3, (98,), {0: thing})), False)
        self.assertIs(is_refusal(task, 0, ("view", 0, (98,), {0: thing})), False)
        self.assertIs(is_refusal(task, 0, ("view", 0, (98,), {0: thing, 1: thing})), True)
        self.assertIs(is_refusal(wide(4, {**lots, (0, 0, 0, 99): [(0, 0, 0, 0), (1, 0, 0, 0)]}), 0, thing), False)

    def test_deep_things_that_are_none(self):
        task = agreement(3, 2)
        deep, nest = refusal(task, 0), ()
        for _ in range(20000):
            deep = ("view", 0, (0,), {0: deep, 1: deep})
            nest = (nest,)
        for wrong in (deep, nest, ("view", 0, nest, {}), ("view", nest, (0,), {0: nest, 1: nest}), (nest,) * 4,
                      ("view", 0, (nest,), {0: nest}), ("run", nest, ()), ("run", (0, 0, 0), nest), (nest,) * 3,
                      ("run", (0, 0, nest), ()), ("run", (0, 0, 0), (nest,)), ("view", 0, (0,), {0: nest, 1: nest})):
            for rounds in (0, 1):
                self.assertIs(is_refusal(task, rounds, wrong), False)

    def test_errors(self):
        for wrong in NO_ROUNDS:
            self.fails(NoNumber, refusal, leader(), wrong)
            self.fails(NoNumber, is_refusal, leader(), wrong, None)
            self.fails(NoNumber, is_refusal, agreement(5, 2), wrong, None)
        for task, rounds in ((even(5, 7, [(0,) * 5]), 1), (leader(), 4), (agreement(4, 2), 2)):
            self.assertEqual(self.fails(TooMany, refusal, task, rounds).most, 20000)
            self.assertEqual(self.fails(TooMany, is_refusal, task, rounds, None).most, 20000)
        for task, rounds in ((leader(), 3), (even(4, 26, [(0,) * 4]), 1), (even(5, 81, [(0,) * 5]), 0)):
            self.assertEqual(self.fails(TooMany, refusal, task, rounds).most, 400)
            self.assertEqual(self.fails(TooMany, is_refusal, task, rounds, ("run", (), ())).most, 400)
        self.assertIsNone(refusal(even(4, 25, [(0,) * 4]), 1))
        self.assertIsNone(refusal(even(5, 6, [(0,) * 5]), 1))

    def test_just_400_pairs(self):
        task = wide(5, {**{(k,) * 5: [(0,) * 5] for k in range(80)}, (0, 0, 0, 0, 1): [(1, 0, 0, 0, 0)]})
        self.assertEqual(len({(me, inputs[me]) for inputs in inputs_of(task) for me in range(5)}), 400)
        self.assertIs(is_refusal(task, 0, self.check(task, 0)), True)
        task = wide(5, {**dict(task.lots), (0, 0, 0, 0, 80): [(1, 0, 0, 0, 0)]})
        self.assertEqual(self.fails(TooMany, refusal, task, 0).most, 400)


class Judged(Case):
    def test_no_refusals(self):
        task = agreement(3, 2)
        for rounds in (0, 1):
            for thing in oddities() + [deep_bar(20000), refusal(task, 1 - rounds), refusal(agreement(3, 3), rounds)]:
                self.assertIs(is_refusal(task, rounds, thing), False)
                self.assertIs(is_refusal(leader(), rounds, thing), False)

    def test_bent_in_one_place(self):
        for task, rounds in ((agreement(3, 2), 0), (agreement(3, 2), 1), (climbing(3, 3), 1)):
            found = refusal(task, rounds)
            for way, each in walked(found):
                for other in bent(each):
                    self.assertIs(is_refusal(task, rounds, replaced(found, way, other)), False, (way, other))
                self.assertIs(is_refusal(task, rounds, replaced(found, way, each)), True)
            for way, each in list(walked(found))[::7]:
                for odd in oddities():
                    self.assertIs(is_refusal(task, rounds, replaced(found, way, odd)), False)

    def test_other_runs(self):
        source = Random(192)
        for task, rounds in ((agreement(3, 2), 0), (agreement(3, 2), 1), (climbing(3, 3), 1), (near(3, 3), 0)):
            found = refusal(task, rounds)
            for way, each in walked(found):
                if each[0] == "run":
                    for _ in range(3):
                        pattern = tuple(tuple(source.choice([None] + [by for by in range(3) if by != me])
                                              for me in range(3)) for _ in range(rounds))
                        thing = replaced(found, way, ("run", source.choice(inputs_of(task)), pattern))
                        self.assertIs(is_refusal(task, rounds, thing), is_plain_refusal(task, rounds, thing))

    def test_the_row_is_not_let(self):
        task = task_of(3, {(0, 0, 0): [(0, 0, 0), (1, 1, 1)], (0, 0, 1): [(1, 1, 1)], (0, 1, 0): [(0, 0, 0)]})
        found = refusal(task, 0)
        self.assertIs(is_refusal(task, 0, found), True)
        let = task_of(3, {(0, 0, 0): [(0, 0, 0), (1, 1, 1)], (0, 0, 1): [(1, 1, 1)], (0, 1, 0): [(0, 0, 0), (1, 1, 1)]})
        self.assertIs(is_refusal(let, 0, found), False)

    def test_all_views_of_the_run_are_asked_for(self):
        task = agreement(3, 2)
        for rounds in (0, 1):
            found = refusal(task, rounds)
            ends = [(way, each) for way, each in walked(found) if each[0] == "run"]
            for way, (_, inputs, pattern) in ends[:20]:
                # Without its last view the run is not asked for whole, wherever that view is one of it.
                upper = found
                for value in way[:-1]:
                    upper = upper[3][value]
                pairs = [(me, plain_view(inputs, pattern, me)) for me in range(3)]
                if (upper[1], upper[2]) in pairs:
                    self.assertIs(is_refusal(task, rounds, replaced(found, way[:-1], ("run", inputs, pattern))), False)


class FewestRounds(Case):
    def test_families(self):
        self.assertEqual(fewest_rounds(leader(), 3), 0)
        self.assertEqual(fewest_rounds(near(3, 2), 0), 0)
        self.assertEqual(fewest_rounds(near(3, 3), 1), 1)
        self.assertEqual(fewest_rounds(few(3, 3, 2), 3), 1)
        self.assertEqual(fewest_rounds(climbing(3, 2), 2), 1)
        self.assertIsNone(fewest_rounds(near(3, 3), 0))
        self.assertIsNone(fewest_rounds(agreement(3, 2), 0))
        self.assertIsNone(fewest_rounds(agreement(3, 2), 1))
        self.assertIsNone(fewest_rounds(climbing(3, 5), 1))

    def test_two_rounds_are_needed(self):
        rows = climb(3, 5)
        task = task_of(3, {(0, 0, 0): rows[:1], (1, 0, 0): rows})
        told = [table(task, rounds) is not None for rounds in (0, 1, 2)]
        self.assertEqual(fewest_rounds(task, 2), told.index(True))

    def test_a_lesser_number_is_told_whatever_greater_ones_raise(self):
        self.assertEqual(fewest_rounds(agreement(5, 1), 3), 0)
        self.assertEqual(fewest_rounds(even(4, 25, [(0,) * 4]), 3), 0)
        self.assertEqual(fewest_rounds(near(4, 2), 3), 0)
        self.assertEqual(self.fails(TooMany, fewest_rounds, agreement(3, 2), 2).most, 400)
        self.assertEqual(self.fails(TooMany, fewest_rounds, agreement(4, 2), 2).most, 20000)
        self.assertEqual(self.fails(TooMany, fewest_rounds, agreement(5, 2), 1).most, 20000)
        self.assertIsNone(fewest_rounds(agreement(5, 2), 0))
        self.assertEqual(self.fails(TooMany, fewest_rounds, even(5, 81, [(0,) * 5]), 0).most, 400)
        self.assertEqual(self.fails(TooMany, fewest_rounds, even(5, 81, [(0,) * 5]), 3).most, 400)

    def test_as_the_tables_tell(self):
        source = Random(193)
        for _ in range(60):
            task = random_task(source, 3, 3, 2, 6)
            told = [table(task, rounds) is not None for rounds in (0, 1)]
            self.assertEqual(fewest_rounds(task, 0), 0 if told[0] else None)
            self.assertEqual(fewest_rounds(task, 1), told.index(True) if True in told else None)

    def test_no_number(self):
        for wrong in [thing for thing in oddities() if type(thing) is not int] + [True, False, -1, 4, 30, BIG]:
            self.fails(NoNumber, fewest_rounds, leader(), wrong)
            self.fails(NoNumber, fewest_rounds, even(5, 81, [(0,) * 5]), wrong)


def plain_span(task, thing):
    """The span by the words of the document."""
    choice, told = thing
    most = 0
    for number, inputs in zip(choice, inputs_of(task)):
        part = plain_parts(lot_of(task, inputs))[number]
        for i in range(task.many):
            cover = told[plain_rest(inputs, i)]
            reached = {row: 0 if plain_rest(row, i) == (i, cover) else len(part) for row in part}
            for _ in part:
                for row in part:
                    nearest = min([reached[other] for other in part if are_neighbours(row, other)], default=len(part))
                    reached[row] = min(reached[row], nearest + 1)
            for j in range(task.many):
                ends = [row for row in part if plain_rest(row, j) == (j, told[plain_rest(inputs, j)])]
                most = max(most, min(reached[row] for row in ends))
    return most


class Spans(Case):
    def test_by_hand(self):
        rows = climb(3, 9)
        task = task_of(3, {(0, 0, 0): rows})
        for ends in ((0, 0, 0), (0, 2, 0), (0, 0, 2), (0, 5, 9), (1, 1, 9), (9, 1, 1), (0, 9, 4), (3, 6, 9)):
            thing = ((0,), {(i, (0, 0)): plain_rest(rows[end], i)[1] for i, end in enumerate(ends)})
            self.assertEqual(span(task, thing), plain_span(task, thing))
        self.assertEqual(span(task, ((0,), {(i, (0, 0)): plain_rest(rows[4], i)[1] for i in range(3)})), 0)
        square = task_of(3, {(0, 0, 0): [(0, 0, 0), (0, 0, 1), (0, 1, 1), (1, 1, 1)]})
        self.assertEqual(span(square, ((0,), {(0, (0, 0)): (0, 0), (1, (0, 0)): (1, 1), (2, (0, 0)): (0, 0)})), 3)
        self.assertEqual(span(square, ((0,), {(0, (0, 0)): (1, 1), (1, (0, 0)): (1, 1), (2, (0, 0)): (0, 0)})), 2)
        self.assertEqual(span(square, ((0,), {(0, (0, 0)): (0, 1), (1, (0, 0)): (0, 1), (2, (0, 0)): (0, 1)})), 1)

    def test_as_the_definition_tells(self):
        for task, thing in planned_tasks(194, 60):
            self.assertEqual(span(task, thing), plain_span(task, thing))
            self.assertLessEqual(span(task, thing), 2 * longest(task, thing))

    def test_of_ways(self):
        for many in (3, 4, 5):
            for steps in (0, 1, 2, 9):
                self.assertEqual(span(*along(many, steps)), 0)

    def test_fact_few_rounds_need_a_plan_of_a_small_span(self):
        for steps in range(1, 8):
            task = climbing(3, steps)
            found = fewest_rounds(task, 1)
            if found is not None:
                self.assertLessEqual(span(task, plan(task)), max(4 ** found - 1, steps))

    def test_no_plan(self):
        task = apart([1, 1, 2])
        choice, told = plan(task)
        rest = (0, (1, 1))
        self.assertEqual(span(task, (choice, told)), 0)
        for thing in oddities() + [
            choice, told, (choice,), [choice, told], (choice, told, told), (list(choice), told), (choice, None),
            ((0, 0, 2), told), ((0, 0, True), told), (choice, {}), (choice, {**told, rest: [0, 0]}),
            (choice, {**told, rest: (0, False)}), (choice, {**told, rest: (0, 1)}), (choice, {**told, None: (0, 0)}),
            plan(leader()), silent_folk(),
        ]:
            self.fails(NoPlan, span, task, thing)
        self.fails(NoPlan, span, agreement(3, 2), None)
