"""Point 20: machines of which only some may be missed."""

from itertools import combinations, product
from random import Random

from onesilent.chain import known
from onesilent.errors import NoLot, NoPlan
from onesilent.families import unlike
from onesilent.folks import Folk, answers, memories, wrong_run
from onesilent.making import told_folk
from onesilent.patterns import is_pattern, plain, shut_out
from onesilent.plans import covers, plan
from onesilent.sure import is_sparing, is_sure_plan, silences, sure_bar, sure_folk, sure_plan
from onesilent.tasks import completing, inputs_of, lot_of, rests
from tests.cases import Case
from tests.plain import knowers, plain_patterns, random_pattern, wrong_answers
from tests.samples import agreement, apart, climbing, few, leader, near, nested, oddities, plain_rest, plain_rests
from tests.samples import random_task, silent_folk, task_of, wide

TURN = (None, None, None)


def lots_of(many, most):
    """All lots of so many machines or fewer."""
    return [lot for count in range(most + 1) for lot in combinations(range(many), count)]


def plain_sure_covers(task, rest):
    """The covers of a rest by whole lots, tried one by one."""
    values = sorted({value for _, lot in task.lots for row in lot for value in row})
    lots = [lot for inputs, lot in task.lots if plain_rest(inputs, rest[0]) == rest]
    return [cover for cover in product(values, repeat=task.many - 1)
            if all(any(plain_rest(row, rest[0]) == (rest[0], cover) for row in lot) for lot in lots)]


def plain_silences(task):
    """The least lots of machines that are too many to be missed, by the document's words."""
    wrong = []
    for lot in lots_of(task.many, task.many):
        if len(lot) == task.many:
            bad = plan(task) is None
        else:
            bad = not all(plain_sure_covers(task, rest) for rest in plain_rests(task) if rest[0] in lot)
        if bad and not any(set(each) <= set(lot) for each in wrong):
            wrong.append(lot)
    return sorted(wrong)


def drawn_tasks(seed, count):
    """Tasks of all numbers of machines, some with a plan and some without."""
    source = Random(seed)
    for _ in range(count):
        many = source.choice((3, 3, 3, 4, 5))
        yield random_task(source, many, 6, 2 if many > 3 else 3, 6)


def left_out(many, i):
    """Two inputs unlike in the place i alone, with rows let that have no answers of the others in common."""
    other = tuple(1 if k == i else 0 for k in range(many))
    return task_of(many, {(0,) * many: [(0,) * many], other: [(1,) * many]})


class Sparing(Case):
    def test_whom_a_pattern_misses(self):
        pattern = ((None, 0, 1), (2, None, 1))
        for some in lots_of(5, 5):
            self.assertIs(is_sparing(some, pattern), {0, 1, 2} <= set(some))
            self.assertIs(is_sparing(some, ()), True)
            for many in (3, 4, 5):
                self.assertIs(is_sparing(some, plain(many, 30)), True)
                for i in range(many):
                    self.assertIs(is_sparing(some, shut_out(many, 2, i)), i in some)

    def test_all_patterns_of_one_round(self):
        for many in (3, 4):
            for pattern in plain_patterns(many, 1):
                missed = {each for each in pattern[0] if each is not None}
                for some in lots_of(5, 5):
                    self.assertIs(is_sparing(some, pattern), missed <= set(some))

    def test_drawn_patterns(self):
        source = Random(201)
        for _ in range(200):
            many = source.randint(3, 5)
            pattern = random_pattern(source, many, source.randint(0, 30))
            missed = {each for turn in pattern for each in turn if each is not None}
            for some in lots_of(5, 5):
                self.assertIs(is_sparing(some, pattern), missed <= set(some))

    def test_the_edges_of_rounds_and_machines(self):
        self.assertIs(is_sparing((0, 1, 2, 3, 4), shut_out(5, 30, 4)), True)
        for thing in (((None,) * 3,) * 31, ((None,) * 2,), ((None,) * 6,), (TURN, (None,) * 4), ((0, None, None),),
                      ((None, None, 3),), ((None, -1, None),), ((None, False, None),), [TURN], ([None] * 3,), TURN,
                      ((None, 0, "0"),), ((None, 0, (0,)),), {}, None):
            self.assertIs(is_sparing((0, 1, 2, 3, 4), thing), False)
            self.assertIs(is_sparing((), thing), False)

    def test_odd_things(self):
        patterns = {(), ((None,) * 3,)}
        for thing in oddities():
            expected = type(thing) is tuple and any(is_pattern(many, k, thing) for many in (3, 4, 5) for k in range(31))
            self.assertIs(is_sparing((0, 1, 2, 3, 4), thing), expected)
        self.assertTrue(all(is_sparing((), thing) for thing in patterns))

    def test_no_lot(self):
        for some in self.wrong_lots() + [(5,), (0, 5), (0, 1, 2, 3, 4, 5)]:
            self.fails(NoLot, is_sparing, some, ())
            self.fails(NoLot, is_sparing, some, None)

    @staticmethod
    def wrong_lots():
        """What is no lot of numbers from 0 to 4."""
        good = {lot for lot in lots_of(5, 5)}
        found = [thing for thing in oddities() if not (type(thing) is tuple and all(type(i) is int for i in thing)
                                                       and thing in good)]
        return found + [(1, 0), (0, 0), (True,), (0, True), [0], {0: 1}, "0", 0, (-1,), (-1, 0), (0, None), ((0,),)]


class Plans(Case):
    def test_each_cover_completes_all_by_whole_lots(self):
        for task in drawn_tasks(202, 60):
            for some in lots_of(task.many, task.many - 1):
                asked = [rest for rest in rests(task) if rest[0] in some]
                bare = [rest for rest in asked if not plain_sure_covers(task, rest)]
                found = sure_plan(task, some)
                self.assertEqual(sure_bar(task, some), bare[0] if bare else None)
                self.assertEqual(found is None, bool(bare))
                if found is not None:
                    self.assertIs(type(found), dict)
                    self.assertEqual(sorted(found), asked)
                    for rest in asked:
                        self.assertIn(found[rest], plain_sure_covers(task, rest))
                    self.assertIs(is_sure_plan(task, some, found), True)

    def test_which_plans_are_sure(self):
        source = Random(203)
        told = {True: 0, False: 0}
        for task in drawn_tasks(204, 60):
            some = source.choice(lots_of(task.many, task.many - 1)[1:])
            rows = [row for _, lot in task.lots for row in lot]
            for _ in range(10):
                thing = {rest: plain_rest(source.choice(rows), rest[0])[1] for rest in rests(task) if rest[0] in some}
                expected = all(cover in plain_sure_covers(task, rest) for rest, cover in thing.items())
                self.assertIs(is_sure_plan(task, some, thing), expected)
                told[expected] += 1
        self.assertGreater(min(told.values()), 50)

    def test_no_machine_may_be_missed(self):
        for task in (agreement(3, 2), leader(), left_out(4, 2), few(3, 3, 1)):
            self.assertEqual(sure_plan(task, ()), {})
            self.assertIsNone(sure_bar(task, ()))
            self.assertIs(is_sure_plan(task, (), {}), True)
            for thing in ((), [], None, {rests(task)[0]: (0, 0)}, {None: None}):
                self.assertIs(is_sure_plan(task, (), thing), False)

    def test_one_machine_alone(self):
        for many in (3, 4, 5):
            for i in range(many):
                task = left_out(many, i)
                bare = (i, (0,) * (many - 1))
                for some in lots_of(many, many - 1):
                    self.assertEqual(sure_plan(task, some) is None, i in some)
                    self.assertEqual(sure_bar(task, some), bare if i in some else None)

    def test_the_least_rest_is_told(self):
        task = agreement(3, 2)
        self.assertIsNone(sure_bar(task, (0, 1)))
        lot = {(0, 0, 0): [(0, 0, 0)], (0, 0, 1): [(5, 5, 5)], (0, 1, 0): [(6, 6, 6)], (1, 0, 0): [(7, 7, 7)]}
        task = task_of(3, lot)
        self.assertEqual(sure_bar(task, (0, 1)), (0, (0, 0)))
        self.assertEqual(sure_bar(task, (1, 2)), (1, (0, 0)))
        self.assertEqual(sure_bar(task, (2,)), (2, (0, 0)))
        lot[(0, 0, 0)] = [(0, 0, 0), (0, 7, 7)]
        self.assertEqual(sure_bar(task_of(3, lot), (0, 2)), (2, (0, 0)))

    def test_a_plan_holds_sure_plans(self):
        # What covers by chosen parts covers by whole lots.
        for task in (leader(), few(3, 3, 2), near(3, 3), climbing(3, 3), apart([2, 1, 3])):
            choice, told = plan(task)
            for some in lots_of(3, 2):
                thing = {rest: told[rest] for rest in told if rest[0] in some}
                self.assertIs(is_sure_plan(task, some, thing), True)
                for rest in thing:
                    self.assertIn(thing[rest], covers(task, choice, rest))

    def test_bent_in_one_place(self):
        task = few(3, 2, 2)
        some = (0, 2)
        good = sure_plan(task, some)
        rest = sorted(good)[0]
        self.assertIs(is_sure_plan(task, some, dict(good)), True)
        for value in [None, True, 0, "00", [], {}, [0, 0], (0,), (0, 0, 0), (False, 0), (0, False), (0, "0"), (0, (0,)),
                      (9, 9), (0, 9), (-1, 0), ((0, 0),), {0: 0}, leader(), *oddities()]:
            if value != good[rest] and not (type(value) is tuple and value in plain_sure_covers(task, rest)):
                self.assertIs(is_sure_plan(task, some, {**good, rest: value}), False)
        less = {each: good[each] for each in good if each != rest}
        for thing in [less, {**less, (1, rest[1]): good[rest]}, {**less, None: good[rest]}, {**less, 0: good[rest]},
                      {**good, (1, (0, 0)): (0, 0)}, {**good, "a": (0, 0)}, {**less, (rest,): good[rest]},
                      {**less, rest[1]: good[rest]}, sure_plan(task, (0,)), sure_plan(task, (0, 1)), list(good.items()),
                      tuple(good.items()), sorted(good), None, "", 0, True, {}, plan(task)]:
            self.assertIs(is_sure_plan(task, some, thing), False)

    def test_odd_things(self):
        for thing in oddities():
            self.assertIs(is_sure_plan(few(3, 2, 2), (0, 1), thing), False)
            self.assertIs(is_sure_plan(apart([1]), (), thing), type(thing) is dict and not thing)

    def test_no_lot(self):
        for many in (3, 4, 5):
            task = left_out(many, 0)
            for some in Sparing.wrong_lots() + [tuple(range(many)), (many,), (0, many), (5,), tuple(range(6))]:
                self.fails(NoLot, sure_plan, task, some)
                self.fails(NoLot, sure_bar, task, some)
                self.fails(NoLot, is_sure_plan, task, some, {})
                self.fails(NoLot, sure_folk, task, some, {})
                self.fails(NoLot, sure_folk, task, some, None)

    def test_tasks_beyond_the_constructor(self):
        task = wide(3, {(10 ** 12 + k // 20, k % 20, 7): [(n, n % 3, 10 ** 100) for n in range(k, k + 90)]
                        for k in range(400)})
        for some in lots_of(3, 2):
            found = sure_plan(task, some)
            self.assertEqual(found is None, sure_bar(task, some) is not None)
            if found is not None:
                self.assertIs(is_sure_plan(task, some, found), True)


class Folks(Case):
    def check(self, task, some, told):
        """The folk answers what is let, whatever patterns miss some machines alone."""
        folk = sure_folk(task, some, told)
        self.assertIs(type(folk), Folk)
        self.assertEqual(folk.rounds, 2)
        for inputs, lot in task.lots:
            self.assertEqual(wrong_answers(folk, inputs, lot, some), [])
        return folk

    def test_drawn_tasks(self):
        count = 0
        for task in drawn_tasks(205, 30):
            for some in lots_of(task.many, task.many - 1):
                told = sure_plan(task, some)
                if told is not None:
                    count += len(some) > 1
                    self.check(task, some, told)
        self.assertGreater(count, 40)

    def test_tasks_without_a_plan(self):
        for many in (3, 4, 5):
            task = agreement(many, 2)
            self.assertIsNone(plan(task))
            for some in lots_of(many, many - 1) if many < 5 else [(), (4,), (1, 3)]:
                self.check(task, some, sure_plan(task, some))
        task = task_of(5, dict(agreement(5, 2).lots[::7]))
        for some in lots_of(5, 4)[-5:]:
            self.check(task, some, sure_plan(task, some))
        for task in (agreement(3, 3), few(3, 3, 1), few(4, 2, 1)):
            self.check(task, (1, 2), sure_plan(task, (1, 2)))

    def test_all_patterns_run_by_run(self):
        task = agreement(3, 2)
        for some in lots_of(3, 2):
            folk = sure_folk(task, some, sure_plan(task, some))
            patterns = [pattern for pattern in plain_patterns(3, 2) if is_sparing(some, pattern)]
            self.assertEqual(len(patterns), {0: 1, 1: 16, 2: 144}[len(some)])
            for inputs in inputs_of(task):
                for pattern in patterns:
                    self.assertIn(answers(folk, inputs, pattern), lot_of(task, inputs))
            # No folk is right by all patterns, since there is no plan.
            self.assertIsNotNone(wrong_run(task, folk))

    def test_the_plan_that_is_handed_in_counts(self):
        lot = [(value, value, value) for value in range(3)]
        task = task_of(3, {(0, 0, 0): lot, (0, 0, 1): lot})
        for value in range(3):
            told = {rest: (value, value) for rest in rests(task) if rest[0] == 2}
            folk = self.check(task, (2,), told)
            self.assertEqual(answers(folk, (0, 0, 1), shut_out(3, 2, 2)), (value,) * 3)

    def test_what_is_done_later_to_the_dict(self):
        task = agreement(4, 2)
        told = sure_plan(task, (0, 1, 3))
        folk = sure_folk(task, (0, 1, 3), told)
        told.clear()
        for inputs, lot in task.lots:
            self.assertEqual(wrong_answers(folk, inputs, lot, (0, 1, 3)), [])

    def test_other_patterns_raise_nothing(self):
        source = Random(206)
        for many in (3, 4, 5):
            task = agreement(many, 2)
            folk = sure_folk(task, (0, many - 1), sure_plan(task, (0, many - 1)))
            for _ in range(200):
                pattern = random_pattern(source, many, 2)
                self.assertEqual(len(answers(folk, source.choice(inputs_of(task)), pattern)), many)
                self.assertEqual(len(memories(folk, (7,) * many, pattern)), 3)
                self.assertEqual(len(answers(folk, (7,) * many, pattern)), many)

    def test_no_plan(self):
        task = agreement(3, 2)
        some = (0, 1)
        good = sure_plan(task, some)
        rest = sorted(good)[0]
        for told in oddities() + [{}, sure_plan(task, (0,)), sure_plan(task, (0, 2)), list(good.items()),
                                  {**good, rest: (5, 5)}, {**good, rest: list(good[rest])}, {**good, rest: None},
                                  {**good, (2, (0, 0)): (0, 0)}, {**good, rest: (False, 0)}, None]:
            self.fails(NoPlan, sure_folk, task, some, told)
        self.fails(NoPlan, sure_folk, left_out(3, 0), (0,), None)
        self.fails(NoPlan, sure_folk, left_out(3, 0), (0,), {(0, (0, 0)): (0, 0)})


class Silences(Case):
    def test_by_hand(self):
        self.assertEqual(silences(agreement(3, 2)), [(0, 1, 2)])
        self.assertEqual(silences(agreement(5, 2)), [(0, 1, 2, 3, 4)])
        self.assertEqual(silences(agreement(4, 1)), [])
        self.assertEqual(silences(few(3, 3, 2)), [])
        self.assertEqual(silences(unlike(4, 4)), [])
        for many in (3, 4, 5):
            for i in range(many):
                self.assertEqual(silences(left_out(many, i)), [(i,)])
        lots = {(0, 0, 0): [(0, 0, 0)], (0, 0, 1): [(1, 1, 1)], (1, 0, 0): [(2, 2, 2)]}
        self.assertEqual(silences(task_of(3, lots)), [(0,), (2,)])

    def test_by_trying_all(self):
        kinds = {}
        for task in drawn_tasks(207, 150):
            found = silences(task)
            self.assertEqual(found, plain_silences(task))
            self.assertIs(type(found), list)
            kind = "none" if not found else "all" if len(found[0]) == task.many else len(found)
            kinds[kind] = kinds.get(kind, 0) + 1
        for task in (agreement(3, 2), climbing(3, 3), few(3, 3, 1)):
            self.assertEqual(silences(task), plain_silences(task))
            kind = "all" if silences(task) else "none"
            kinds[kind] = kinds.get(kind, 0) + 1
        self.assertLessEqual({"none", "all", 1, 2, 3}, set(kinds))

    def test_the_lot_of_all_exactly_without_a_plan(self):
        for task in drawn_tasks(208, 80):
            self.assertEqual(silences(task) == [], plan(task) is not None)


class SecondFact(Case):
    def test_no_folk_of_few_rounds_without_a_sure_plan(self):
        # All folks of no rounds and of one round in which machines tell all, for small tasks of one rest that is bare.
        task = task_of(3, {(0, 0, 0): [(0, 0, 0), (0, 1, 1)], (1, 0, 0): [(1, 0, 1), (1, 1, 0)]})
        self.assertEqual(sure_bar(task, (0,)), (0, (0, 0)))
        for table in product((0, 1), repeat=6):
            def answer(me, told, table=table):
                return table[2 * me + told.get(0, 0)]
            folk = knowers(1, answer)
            wrong = [wrong_answers(folk, inputs, lot, (0,)) for inputs, lot in task.lots]
            self.assertTrue(any(wrong))

    def test_strangers_are_wrong_without_one(self):
        # As the machine is shut out, the others cannot tell its inputs; so one of their runs is wrong.
        for task in drawn_tasks(209, 60):
            for i in range(task.many):
                bare = sure_bar(task, (i,))
                if bare is None:
                    continue
                for rounds in (0, 1, 2, 5):
                    for folk in (knowers(rounds, lambda me, told: min(told.values())),
                                 knowers(rounds, lambda me, told: max(told.values())), silent_folk()):
                        pattern = shut_out(task.many, folk.rounds, i)
                        self.assertIs(is_sparing((i,), pattern), True)
                        self.assertNotIn(i, known(task.many, pattern)[(i + 1) % task.many])
                        self.assertTrue([inputs for inputs in completing(task, bare)
                                         if answers(folk, inputs, pattern) not in lot_of(task, inputs)])

    def test_with_a_plan_all_may_be_missed(self):
        task = few(3, 3, 2)
        folk = told_folk(task, plan(task))
        for inputs, lot in task.lots:
            self.assertEqual(wrong_answers(folk, inputs, lot), [])


class Depths(Case):
    def test_deep_things(self):
        task = few(3, 2, 2)
        for thing in (nested(30, lambda thing: (thing,)), nested(30, lambda thing: [thing]),
                      nested(29, lambda thing: {0: thing})):
            self.fails(NoLot, is_sparing, thing, thing)
            self.assertIs(is_sparing((0,), thing), False)
            self.assertIs(is_sure_plan(task, (0,), thing), False)
            good = sure_plan(task, (0,))
            for rest in good:
                self.assertIs(is_sure_plan(task, (0,), {**good, rest: thing}), False)
                self.assertIs(is_sure_plan(task, (0,), {**good, rest: (0, thing)}), False)
