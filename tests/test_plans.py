"""Point 9: choices, covers and plans."""

from itertools import product
from random import Random

from onesilent.errors import NoChoice, NoRest, TooMany
from onesilent.lots import parts
from onesilent.plans import choices, covers, is_choice, is_plan, plan
from onesilent.tasks import Task, completing, inputs_of, lot_of, rests
from tests.cases import Case
from tests.samples import agreement, apart, leader, oddities, plain_choices, plain_covers, plain_rests, random_task
from tests.samples import task_of, wide

BIG = 10 ** 109 + 7


def forked():
    """Two inputs of two parts each that share a rest, which has covers by three of the four choices."""
    return task_of(3, {
        (0, 0, 0): [(0, 0, 0), (0, 2, 2), (0, 2, 3), (0, 3, 3)],
        (1, 0, 0): [(1, 0, 0), (1, 0, 2), (1, 2, 2), (4, 2, 3), (4, 3, 3)],
    })


def random_tasks(seed, count):
    source = Random(seed)
    for number in range(count):
        many = (3, 3, 4, 5)[number % 4]
        yield random_task(source, many, 6, source.choice((2, 3)) if many == 3 else 2, 10)


class Choices(Case):
    def test_is_choice(self):
        task = apart([1, 2, 3])
        right = set(product(range(1), range(2), range(3)))
        for thing in product(range(-1, 4), repeat=3):
            self.assertIs(is_choice(task, thing), thing in right)

    def test_is_no_choice(self):
        task = apart([1, 2, 3])
        for thing in [*oddities(), (0, 0), (0, 0, 0, 0), [0, 0, 0], (0, True, 0), (0, 0, False), (0, 0, None),
                      (0, 0, "0"), (0, 0, (0,)), (0, 0, BIG), (0, 0, -1), (1, 0, 0), (0, 2, 0), (0, 0, 3)]:
            self.assertIs(is_choice(task, thing), False)

    def test_is_choice_of_many_inputs_and_parts(self):
        task = Task(3, tuple(((k, k, k), tuple((n, n, n) for n in range(60))) for k in range(60)))
        self.assertIs(is_choice(task, (59,) * 60), True)
        self.assertIs(is_choice(task, (0,) * 60), True)
        for thing in ((60,) * 60, (0,) * 59 + (60,), (60,) + (0,) * 59, (0,) * 59, (0,) * 61):
            self.assertIs(is_choice(task, thing), False)

    def test_all_choices_that_are_right(self):
        self.assertEqual(choices(agreement(3, 1)), [(0,)])
        self.assertEqual(choices(agreement(3, 2)), [])
        self.assertEqual(choices(leader()), [(0,), (1,), (2,)])
        self.assertEqual(choices(apart([2, 1, 3])), list(product(range(2), range(1), range(3))))
        self.assertEqual(choices(forked()), [(0, 0), (1, 0), (1, 1)])

    def test_as_the_definition_tells(self):
        for task in random_tasks(11, 120):
            self.assertEqual(choices(task), plain_choices(task))

    def test_just_4000_and_more(self):
        self.assertEqual(choices(apart([20, 20, 10])), list(product(range(20), range(20), range(10))))
        self.assertEqual(len(choices(apart([2] * 5 + [5] * 3))), 4000)
        for counts in ([2, 3, 23, 29], [4, 7, 11, 13], [2] * 12, [60, 60, 2], [60] * 60):
            self.assertEqual(self.fails(TooMany, choices, apart(counts)).most, 4000)
        self.assertEqual(self.fails(TooMany, choices, wide(3, dict(apart([60] * 60).lots))).most, 4000)

    def test_sixty_inputs_of_one_part(self):
        self.assertEqual(choices(apart([1] * 60)), [(0,) * 60])

    def test_too_many_though_none_is_right(self):
        barred = dict(agreement(3, 2).lots)
        barred.update({(k, k, k): [(n, n, n) for n in range(50)] for k in (5, 6, 7)})
        self.assertEqual(self.fails(TooMany, choices, task_of(3, barred)).most, 4000)


class Covers(Case):
    def test_of_one_completing_inputs(self):
        task = task_of(3, {(0, 0, 0): [(0, 5, 6), (1, 5, 6), (1, 5, 7), (8, 8, 8)]})
        self.assertEqual(covers(task, (0,), (0, (0, 0))), [(5, 6), (5, 7)])
        self.assertEqual(covers(task, (0,), (1, (0, 0))), [(0, 6), (1, 6), (1, 7)])
        self.assertEqual(covers(task, (0,), (2, (0, 0))), [(0, 5), (1, 5)])
        self.assertEqual(covers(task, (1,), (2, (0, 0))), [(8, 8)])

    def test_of_two_completing_inputs(self):
        task = forked()
        self.assertEqual(covers(task, (0, 0), (0, (0, 0))), [(0, 0)])
        self.assertEqual(covers(task, (0, 1), (0, (0, 0))), [])
        self.assertEqual(covers(task, (1, 0), (0, (0, 0))), [(2, 2)])
        self.assertEqual(covers(task, (1, 1), (0, (0, 0))), [(2, 3), (3, 3)])
        self.assertEqual(covers(task, (1, 1), (1, (0, 0))), [(0, 2), (0, 3)])
        self.assertEqual(covers(task, (1, 1), (1, (1, 0))), [(4, 3)])

    def test_none(self):
        task = agreement(3, 2)
        choice = tuple(len(parts(lot)) - 1 for _, lot in task.lots)
        self.assertEqual(covers(task, choice, (0, (0, 0))), [])
        self.assertEqual(covers(task, choice, (0, (1, 1))), [(1, 1)])
        self.assertEqual(covers(task, (0,) * 8, (0, (1, 1))), [])

    def test_as_the_definition_tells(self):
        source = Random(12)
        for task in random_tasks(13, 60):
            choice = tuple(source.randrange(len(parts(lot))) for _, lot in task.lots)
            for rest in rests(task):
                self.assertEqual(covers(task, choice, rest), plain_covers(task, choice, rest))

    def test_no_choice(self):
        task = apart([1, 2, 3])
        for thing in oddities() + [(0, 0), [0, 0, 0], (0, 0, True), (0, 0, 3), (0, 2, 0), (1, 0, 0), (0, -1, 0)]:
            self.fails(NoChoice, covers, task, thing, (0, (0, 0)))
            self.fails(NoChoice, covers, task, thing, None)
            self.fails(NoChoice, covers, task, thing, thing)

    def test_no_rest(self):
        task = apart([1, 2, 3])
        for thing in oddities()[1:] + [(0, (0, 1)), (3, (0, 0)), (0, [0, 0]), (False, (0, 0)), (0, (0, False)),
                                       (0, (0, 0, 0)), (3, (0, 0, 0)), (3, (1, 1, 1)), (0, (3, 3)), None]:
            self.fails(NoRest, covers, task, (0, 0, 0), thing)


class Plans(Case):
    def check(self, task, thing):
        """The thing is a plan for the task by the words of the document."""
        self.assertIs(type(thing), tuple)
        choice, told = thing
        self.assertIs(type(told), dict)
        self.assertEqual(sorted(told), plain_rests(task))
        for rest, cover in told.items():
            self.assertIn(cover, plain_covers(task, choice, rest))
        self.assertIs(is_plan(task, thing), True)

    def test_plans_that_are_there(self):
        for task in (leader(), forked(), agreement(3, 1), agreement(5, 1), apart([3, 2, 1])):
            self.check(task, plan(task))

    def test_plans_that_are_not(self):
        for many, values in ((3, 2), (4, 2), (5, 2), (3, 3)):
            self.assertIsNone(plan(agreement(many, values)))
        lone = task_of(3, {(0, 0, 0): [(0, 0, 0)], (0, 0, 1): [(0, 1, 1)]})
        self.assertIsNone(plan(lone))

    def test_as_the_definition_tells(self):
        told = {True: 0, False: 0}
        for task in random_tasks(14, 120):
            right = plain_choices(task)
            found = plan(task)
            told[bool(right)] += 1
            if right:
                self.assertIn(found[0], right)
                self.check(task, found)
            else:
                self.assertIsNone(found)
        self.assertGreater(min(told.values()), 15)

    def test_is_plan_looks_at_each_rest(self):
        for task in random_tasks(15, 60):
            for choice in plain_choices(task)[:3]:
                right = {rest: plain_covers(task, choice, rest) for rest in rests(task)}
                told = {rest: right[rest][-1] for rest in right}
                self.assertIs(is_plan(task, (choice, told)), True)
                for rest in told:
                    wrong = [cover for cover in product(range(3), repeat=task.many - 1) if cover not in right[rest]]
                    for cover in wrong[:2]:
                        self.assertIs(is_plan(task, (choice, {**told, rest: cover})), False)
                    less = {other: told[other] for other in told if other != rest}
                    self.assertIs(is_plan(task, (choice, less)), False)
                    self.assertIs(is_plan(task, (choice, {**less, (0, (77, 77)): told[rest]})), False)

    def test_is_plan_by_its_own_choice_alone(self):
        task = forked()
        for choice in product(range(2), repeat=2):
            for other in choices(task):
                told = {rest: covers(task, other, rest)[0] for rest in rests(task)}
                self.assertIs(is_plan(task, (choice, told)), choice == other)

    def test_is_no_plan(self):
        task = apart([1, 1, 2])
        choice, told = plan(task)
        rest = (0, (1, 1))
        self.assertEqual(told[rest], (0, 0))
        for thing in [
            *oddities(), choice, told, (choice,), (choice, told, told), [choice, told], (told, choice),
            (list(choice), told), (choice, list(told.items())), (choice, tuple(told.items())), (choice, None),
            ((0, 0, True), told), ((0, 0, False), told), ((0, 0, 2), told), ((0, 0), told), (choice, {}),
            (choice, {**told, rest: [0, 0]}), (choice, {**told, rest: (0, False)}), (choice, {**told, rest: (0,)}),
            (choice, {**told, rest: (0, 0, 0)}), (choice, {**told, rest: None}), (choice, {**told, rest: "00"}),
            (choice, {**told, rest: {}}), (choice, {**told, rest: ([0], 0)}), (choice, {**told, rest: (0, leader())}),
            (choice, {**told, None: (0, 0)}), (choice, {**told, "rest": (0, 0)}), (choice, {**told, (): ()}),
            (choice, {**told, (3, (0, 0)): (0, 0)}), (choice, {**told, (0, (0, 9)): (0, 0)}),
        ]:
            self.assertIs(is_plan(task, thing), False)
        for odd in oddities():
            self.assertIs(is_plan(task, (odd, told)), False)
            self.assertIs(is_plan(task, (choice, odd)), False)
            self.assertIs(is_plan(task, (choice, {**told, rest: odd})), odd == (0, 0))

    def test_sixty_inputs_and_rows(self):
        lot = tuple((n % 4, n // 4 % 4, n // 16) for n in range(60))
        lot = tuple(sorted(lot))
        task = Task(3, tuple(((k // 16, k // 4 % 4, k % 4), lot) for k in range(60)))
        found = plan(task)
        self.assertEqual(found[0], (0,) * 60)
        self.assertIs(is_plan(task, found), True)
        self.assertEqual(choices(task), [(0,) * 60])

    def test_beyond_the_bounds_of_the_constructor(self):
        def shifted(row):
            return tuple(value + BIG for value in row)
        table = {}
        for inputs in product(range(8), range(8), range(6)):
            rows = [(inputs[0] + n, inputs[1], 0) for n in range(-8, 9)] + [(0, n, 0) for n in range(70)]
            table[shifted(inputs)] = {shifted(row) for row in rows} | {(n, n, n) for n in range(5)}
        task = wide(3, table)
        found = plan(task)
        self.assertIs(is_plan(task, found), True)
        self.assertEqual(len(found[0]), 384)
        rest = rests(task)[0]
        self.assertIn(found[1][rest], covers(task, found[0], rest))
        self.fails(TooMany, choices, task)

    def test_many_inputs_that_hang_together_are_gone_through(self):
        rows = list(product(range(3), repeat=4))[:60]
        table = {row: [(value,) * 4 for value in range(3)] for row in rows}
        found = plan(task_of(4, table))
        self.assertEqual(len(set(found[0])), 1)
        table[rows[0]] = [(0,) * 4]
        table[rows[-1]] = [(2,) * 4]
        self.assertIsNone(plan(task_of(4, table)))

    def test_covers_of_a_plan_complete_all_inputs(self):
        for task in random_tasks(16, 30):
            found = plan(task)
            if found is None:
                continue
            choice, told = found
            order = inputs_of(task)
            for (i, others), cover in told.items():
                for inputs in completing(task, (i, others)):
                    part = parts(lot_of(task, inputs))[choice[order.index(inputs)]]
                    self.assertTrue([row for row in part if row[:i] + row[i + 1:] == cover])
