"""Points 15 and 16: the folk that is made by a plan, and how many rounds it takes."""

from random import Random

from onesilent.errors import NoPlan
from onesilent.folks import Folk, answers, memories, wrong_run
from onesilent.lots import parts
from onesilent.making import longest, rounds_enough, told_folk
from onesilent.plans import choices, covers, is_plan, plan
from onesilent.tasks import inputs_of, lot_of, rests
from tests.cases import Case
from tests.plain import random_pattern, wrong_answers
from tests.samples import agreement, apart, climb, few, leader, near, oddities, plain_rest, plain_way, random_task
from tests.samples import task_of, wide


def plain_longest(task, thing):
    """The longest of the ways, by the words of the document."""
    choice, told = thing
    most = 0
    for number, inputs in zip(choice, inputs_of(task)):
        part = parts(lot_of(task, inputs))[number]
        for i in range(task.many):
            cover = told[plain_rest(inputs, i)]
            end = min(row for row in part if plain_rest(row, i) == (i, cover))
            most = max(most, len(plain_way(part, min(part), end)) - 1)
    return most


def along(many, steps):
    """A task of one inputs with a way of rows for its lot, and a plan whose covers all stand at the end of the way."""
    rows = climb(many, steps)
    task = task_of(many, {(0,) * many: rows})
    return task, ((0,), {plain_rest((0,) * many, i): plain_rest(rows[-1], i)[1] for i in range(many)})


def any_plan(source, task):
    """Some plan for the task, drawn from a source, or None."""
    found = choices(task)
    if not found:
        return None
    choice = source.choice(found)
    return choice, {rest: source.choice(covers(task, choice, rest)) for rest in rests(task)}


def planned_tasks(seed, count):
    """Tasks with plans, which are drawn, too."""
    source = Random(seed)
    while count:
        many = source.choice((3, 3, 4, 5))
        if source.random() < 0.5:
            task = random_task(source, many, 5, 3 if many == 3 else 2, 20)
        else:
            row, rows = [0] * many, set()
            for _ in range(source.randint(2, 25)):
                rows.add(tuple(row))
                row[source.randrange(many)] = source.randrange(4)
            zeros = (0,) * (many - 1)
            task = task_of(many, {(k,) + zeros: sorted(rows) for k in range(source.randint(1, 3))})
        thing = any_plan(source, task)
        if thing is not None:
            count -= 1
            yield task, thing


class Rounds(Case):
    def test_ways_of_each_length(self):
        for many in (3, 4, 5):
            for steps in range(20):
                task, thing = along(many, steps)
                self.assertIs(is_plan(task, thing), True)
                # The end for a machine is the least row that completes, so it may stand one step ahead.
                most = plain_longest(task, thing)
                self.assertIn(most, (steps, steps - 1))
                self.assertEqual(longest(task, thing), most)

    def test_powers_of_two(self):
        told = {0: 2, 1: 3, 2: 4, 3: 4, 4: 5, 7: 5, 8: 6, 15: 6, 16: 7, 31: 7, 32: 8}
        met = {}
        for steps in range(34):
            task, thing = along(3, steps)
            met[longest(task, thing)] = rounds_enough(task, thing)
        for most, rounds in met.items():
            self.assertTrue(2 ** (rounds - 2) > most and (rounds == 2 or 2 ** (rounds - 3) <= most))
        for most, rounds in told.items():
            self.assertEqual(met[most], rounds)

    def test_none_to_go(self):
        for task in (agreement(3, 1), leader(), apart([2, 1, 3])):
            self.assertEqual(longest(task, plan(task)), 0)
            self.assertEqual(rounds_enough(task, plan(task)), 2)
            self.assertEqual(told_folk(task, plan(task)).rounds, 2)

    def test_by_hand(self):
        lot = [(0, 0, 0), (0, 0, 1), (0, 1, 1), (1, 1, 1)]
        task = task_of(3, {(0, 0, 0): lot})
        for covers_told, most in ((((0, 0), (0, 0), (0, 0)), 0), (((0, 1), (0, 0), (0, 0)), 1),
                                  (((1, 1), (0, 0), (0, 0)), 2), (((0, 0), (1, 1), (0, 0)), 3),
                                  (((0, 0), (0, 0), (0, 1)), 2), (((0, 0), (0, 0), (1, 1)), 3)):
            thing = ((0,), {(i, (0, 0)): cover for i, cover in enumerate(covers_told)})
            self.assertIs(is_plan(task, thing), True)
            self.assertEqual(longest(task, thing), most)
            self.assertEqual(longest(task, thing), plain_longest(task, thing))

    def test_the_end_is_the_least_row_that_completes(self):
        # Without machine 0 the cover (0, 0) is completed by three rows; the least one is the begin.
        task = task_of(3, {(0, 0, 0): [(0, 0, 0), (5, 0, 0), (9, 0, 0), (9, 1, 0)]})
        thing = ((0,), {(0, (0, 0)): (0, 0), (1, (0, 0)): (9, 0), (2, (0, 0)): (9, 1)})
        self.assertEqual(longest(task, thing), 2)
        thing[1][(2, (0, 0))] = (0, 0)
        self.assertEqual(longest(task, thing), 1)

    def test_as_the_definition_tells(self):
        for task, thing in planned_tasks(161, 80):
            most = plain_longest(task, thing)
            self.assertEqual(longest(task, thing), most)
            rounds = rounds_enough(task, thing)
            self.assertEqual(rounds, 2 + min(k for k in range(20) if 2 ** k > most))
            self.assertEqual(told_folk(task, thing).rounds, rounds)

    def test_no_plan(self):
        task = apart([1, 1, 2])
        choice, told = plan(task)
        rest = (0, (1, 1))
        for thing in oddities() + [
            choice, told, (choice,), [choice, told], (choice, told, told), (list(choice), told), (choice, None),
            (choice, list(told.items())), ((0, 0, 2), told), ((0, 0, True), told), (choice, {}), (told, choice),
            (choice, {**told, rest: [0, 0]}), (choice, {**told, rest: (0, False)}), (choice, {**told, rest: (0, 1)}),
            (choice, {**told, rest: None}), (choice, {**told, (0, (0, 9)): (0, 0)}), (choice, {**told, None: (0, 0)}),
            plan(leader()), (choice, {each: told[each] for each in list(told)[1:]}),
        ]:
            for function in (longest, rounds_enough, told_folk):
                self.fails(NoPlan, function, task, thing)
        for task in (agreement(3, 2), agreement(4, 2)):
            for function in (longest, rounds_enough, told_folk):
                self.fails(NoPlan, function, task, None)


class Solved(Case):
    def check(self, task, thing):
        """The folk that is made answers what is let, by all patterns."""
        folk = told_folk(task, thing)
        self.assertIs(type(folk), Folk)
        self.assertEqual(folk.rounds, rounds_enough(task, thing))
        for inputs, lot in task.lots:
            self.assertEqual(wrong_answers(folk, inputs, lot), [])

    def test_all_patterns_of_drawn_plans(self):
        for task, thing in planned_tasks(162, 40):
            self.check(task, thing)

    def test_families(self):
        for task in (leader(), agreement(3, 1), agreement(5, 1), few(3, 3, 2), near(3, 3), near(4, 2), apart([3, 2])):
            self.check(task, plan(task))

    def test_ways_of_each_length(self):
        for steps in (1, 2, 3, 4, 5, 7, 8, 9, 15, 16):
            self.check(*along(3, steps))
        for many in (4, 5):
            self.check(*along(many, 4))

    def test_run_by_run(self):
        for task in (near(3, 2), apart([2, 1]), few(3, 2, 2)):
            thing = plan(task)
            if rounds_enough(task, thing) == 2:
                self.assertIsNone(wrong_run(task, told_folk(task, thing)))
        task, thing = along(3, 1)
        self.assertEqual(rounds_enough(task, thing), 3)
        self.assertIsNone(wrong_run(task, told_folk(task, thing)))

    def test_drawn_patterns(self):
        source = Random(163)
        for task, thing in planned_tasks(164, 40):
            folk = told_folk(task, thing)
            for inputs, lot in task.lots:
                for _ in range(40):
                    pattern = random_pattern(source, task.many, folk.rounds)
                    told = answers(folk, inputs, pattern)
                    self.assertIn(told, lot)
                    self.assertEqual(told, answers(folk, inputs, pattern))

    def test_what_is_done_later_to_the_dict(self):
        task, thing = along(4, 5)
        folk = told_folk(task, thing)
        kept = dict(thing[1])
        thing[1].clear()
        for inputs, lot in task.lots:
            self.assertEqual(wrong_answers(folk, inputs, lot), [])
        for rest in kept:
            thing[1][rest] = (99, 99, 99)
        self.assertEqual(wrong_answers(folk, (0, 0, 0, 0), lot_of(task, (0, 0, 0, 0))), [])

    def test_the_plan_that_is_handed_in_counts(self):
        task = task_of(3, {(0, 0, 0): [(1, 0, 0), (0, 1, 0), (0, 0, 1)]})
        told = set()
        for number, part in enumerate(parts(lot_of(task, (0, 0, 0)))):
            thing = ((number,), {(i, (0, 0)): plain_rest(part[0], i)[1] for i in range(3)})
            told.add(answers(told_folk(task, thing), (0, 0, 0), (((None,) * 3),) * 2))
        self.assertEqual(told, {(1, 0, 0), (0, 1, 0), (0, 0, 1)})

    def test_numbers_beyond_the_constructor(self):
        shift = 10 ** 109
        rows = [tuple(value - shift for value in row) for row in climb(3, 6)]
        table = {(x + shift, -shift, 0): rows for x in range(3)}
        task = wide(3, table)
        self.check(task, plan(task))
        task = wide(3, {(k, 0, 0): [(n, k * (n > 3), 0) for n in range(70)] for k in range(100)})
        self.check(task, plan(task))

    def test_memories_are_equal_in_equal_runs(self):
        task, thing = along(3, 6)
        pattern = random_pattern(Random(165), 3, rounds_enough(task, thing))
        self.assertEqual(memories(told_folk(task, thing), (0, 0, 0), pattern),
                         memories(told_folk(task, thing), (0, 0, 0), pattern))


class MainFact(Case):
    def test_a_folk_exactly_if_there_is_a_plan(self):
        source = Random(151)
        told = {True: 0, False: 0}
        for _ in range(80):
            task = random_task(source, 3, 6, 2, 5)
            found = plan(task)
            told[found is not None] += 1
            if found is None:
                self.assertEqual(choices(task), [])
            else:
                folk = told_folk(task, found)
                self.assertEqual([wrong_answers(folk, inputs, lot) for inputs, lot in task.lots], [[]] * len(task.lots))
        self.assertGreater(min(told.values()), 10)
