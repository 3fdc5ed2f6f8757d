"""Point 18: views and tables."""

from itertools import product
from random import Random

from onesilent.errors import NoMachine, NoNumber, NoPattern, NoRow, TooMany
from onesilent.folks import Folk, answers, memories, wrong_run
from onesilent.patterns import plain, shut_out
from onesilent.plans import plan
from onesilent.tasks import lot_of
from onesilent.views import by_table, is_table, table, view_of
from tests.cases import Case
from tests.plain import gatherers, is_plain_table, plain_pairs, plain_patterns, plain_view, random_pattern
from tests.samples import agreement, apart, climbing, few, leader, near, nested, oddities, random_task, silent_folk
from tests.samples import task_of, wide

BIG = 10 ** 109 + 7
TURN = (None, None, None)
NO_ROUNDS = [None, True, False, -1, 5, 30, BIG, "1", (), [], {}, leader(), silent_folk()]


def even(many, count, lot):
    """So many inputs that share nothing, with this lot."""
    return wide(many, {(k,) * many: lot for k in range(count)})


class Views(Case):
    def test_few_rounds(self):
        self.assertEqual(view_of((5, 6, 7), (), 1), (6,))
        self.assertEqual(view_of((5, 6, 7), ((1, None, 0),), 0), ((5,), None, (7,)))
        self.assertEqual(view_of((5, 6, 7), ((1, None, 0),), 1), ((5,), (6,), (7,)))
        self.assertEqual(view_of((5, 6, 7), ((1, None, 0), (None, 2, 1)), 2), (
            ((5,), None, (7,)), None, (None, (6,), (7,))))

    def test_as_the_definition_tells(self):
        source = Random(181)
        for rounds in (0, 1, 2, 3, 4):
            for many in (3, 4, 5):
                for _ in range(6):
                    inputs = tuple(source.choice((0, -1, BIG)) for _ in range(many))
                    pattern = random_pattern(source, many, rounds)
                    told = memories(gatherers(rounds, lambda me, memory: 0), inputs, pattern)[-1]
                    for me in range(many):
                        self.assertEqual(view_of(inputs, pattern, me), plain_view(inputs, pattern, me))
                        self.assertEqual(view_of(inputs, pattern, me), told[me])

    def test_errors(self):
        no_rows = oddities() + [(0, 0), (0,) * 6, [0, 0, 0], (0, 0, True), (0, 0, None), {0: 0}]
        for wrong in no_rows:
            self.fails(NoRow, view_of, wrong, (TURN,), 0)
            self.fails(NoRow, view_of, wrong, None, None)
        for wrong in [thing for thing in oddities() if thing != ()] + [
                (TURN,) * 5, (TURN,) * 30, ((None,) * 4,), ((0, None, None),), ((3, None, None),), [TURN],
                (list(TURN),),
                (TURN, (None, False, None)), (TURN, None), (TURN, ())]:
            self.fails(NoPattern, view_of, (0, 0, 0), wrong, 0)
            self.fails(NoPattern, view_of, (0, 0, 0), wrong, None)
        self.fails(NoPattern, view_of, (0, 0, 0, 0), (TURN,), 0)
        for wrong in [thing for thing in oddities() if type(thing) is not int] + [True, False, -1, 3, 4, BIG]:
            self.fails(NoMachine, view_of, (0, 0, 0), (TURN,) * 4, wrong)
        self.assertEqual(view_of((0, 0, 0, 0, 0), (), 4), (0,))
        self.fails(NoMachine, view_of, (0, 0, 0, 0, 0), (), 5)


class Tables(Case):
    def check(self, task, rounds):
        """There is a table, by the words of the document."""
        found = table(task, rounds)
        self.assertIs(type(found), dict)
        self.assertEqual({type(value) for value in found.values()}, {int})
        self.assertTrue(is_plain_table(task, rounds, found))
        self.assertIs(is_table(task, rounds, found), True)
        return found

    def test_no_rounds_tried_one_by_one(self):
        source = Random(182)
        told = {True: 0, False: 0}
        for _ in range(100):
            task = random_task(source, 3, 4, 2, 4)
            pairs = sorted(plain_pairs(task, 0))
            right = any(is_plain_table(task, 0, dict(zip(pairs, values)))
                        for values in product(range(2), repeat=len(pairs)))
            told[right] += 1
            if right:
                self.check(task, 0)
            else:
                self.assertIsNone(table(task, 0))
        self.assertGreater(min(told.values()), 20)

    def test_of_drawn_tasks(self):
        source = Random(183)
        told = {True: 0, False: 0}
        for number in range(120):
            many = (3, 3, 4)[number % 3]
            task = random_task(source, many, 4 if many == 3 else 2, 2, source.choice((3, 5, 12)))
            for rounds in (0, 1):
                if table(task, rounds) is not None:
                    told[True] += 1
                    self.check(task, rounds)
                    self.assertIsNotNone(plan(task))
                else:
                    told[False] += 1
        self.assertGreater(min(told.values()), 20)

    def test_families(self):
        for task, rounds in ((leader(), 0), (leader(), 1), (leader(), 2), (near(3, 2), 0), (near(3, 3), 1),
                             (few(3, 3, 2), 1), (few(3, 4, 3), 0), (agreement(3, 1), 2), (agreement(5, 1), 1),
                             (apart([2, 1, 3]), 0), (near(4, 2), 0)):
            self.check(task, rounds)
        for task, rounds in ((agreement(3, 2), 0), (agreement(3, 2), 1), (agreement(3, 3), 1), (near(3, 3), 0),
                             (near(3, 4), 1), (few(3, 3, 2), 0), (few(3, 3, 1), 1), (few(3, 4, 2), 0)):
            self.assertIsNone(table(task, rounds))

    def test_how_far_one_round_goes(self):
        # A way of more than two steps is too long for what one round can lead from end to end here.
        self.check(climbing(3, 2), 1)
        self.assertIsNone(table(climbing(3, 3), 1))
        self.assertIsNotNone(plan(climbing(3, 3)))

    def test_more_rounds_have_a_table_too(self):
        source = Random(184)
        for _ in range(40):
            task = random_task(source, 3, 2, 2, 5)
            if table(task, 0) is not None:
                self.check(task, 1)

    def test_numbers_beyond_the_constructor(self):
        task = wide(3, {(BIG, -BIG, k): [(-BIG, BIG, n) for n in range(k, 90)] for k in range(5)})
        self.check(task, 0)
        self.check(task, 1)

    def test_the_table_is_new(self):
        found = table(leader(), 1)
        kept = dict(found)
        found.clear()
        self.assertEqual(table(leader(), 1), kept)

    def test_no_number(self):
        for wrong in NO_ROUNDS + [thing for thing in oddities() if type(thing) is not int]:
            self.fails(NoNumber, table, leader(), wrong)
            self.fails(NoNumber, is_table, leader(), wrong, {})
            self.fails(NoNumber, is_table, leader(), wrong, None)
            self.fails(NoNumber, by_table, wrong, {})
            self.fails(NoNumber, table, agreement(5, 2), wrong)

    def test_too_many_runs(self):
        lot = [(0,) * 5]
        # 18750 runs of six inputs of five machines; 21875 of seven.
        self.assertEqual(len(table(even(5, 6, lot), 1)), 150)
        for task, rounds in ((even(5, 7, lot), 1), (leader(), 4), (even(3, 2, [(0, 0, 0)]), 3), (agreement(4, 2), 2),
                             (even(3, 28, [(0, 0, 0)]), 2), (even(4, 79, [(0, 0, 0, 0)]), 1), (agreement(5, 2), 4)):
            self.assertEqual(self.fails(TooMany, table, task, rounds).most, 20000)
            self.assertEqual(self.fails(TooMany, is_table, task, rounds, None).most, 20000)
        # Of just as many runs, or fewer, the pairs are counted.
        for task, rounds in ((leader(), 3), (even(3, 27, [(0, 0, 0)]), 2), (even(4, 78, [(0, 0, 0, 0)]), 1)):
            self.assertEqual(self.fails(TooMany, table, task, rounds).most, 400)
            self.assertEqual(self.fails(TooMany, is_table, task, rounds, {}).most, 400)
        just = even(3, 20000, [(0, 0, 0)])
        self.assertEqual(self.fails(TooMany, table, just, 0).most, 400)
        just.lots = just.lots + (((20000, 0, 0), ((0, 0, 0),)),)
        self.assertEqual(self.fails(TooMany, table, just, 0).most, 20000)

    def test_just_400_pairs_and_above(self):
        for many, count, rounds in ((4, 25, 1), (4, 100, 0), (5, 80, 0)):
            task = even(many, count, [(0,) * many, (1,) * many])
            self.assertEqual(len(self.check(task, rounds) if rounds == 0 else table(task, rounds)), 400)
            task = even(many, count + 1, [(0,) * many])
            self.assertEqual(self.fails(TooMany, table, task, rounds).most, 400)
            self.assertEqual(self.fails(TooMany, is_table, task, rounds, {}).most, 400)
        # 133 inputs of three machines that share one number have 400 pairs at first.
        task = wide(3, {(k, k, k) if k else (0, 0, 0): [(0, 0, 0)] for k in range(133)} | {(133, 0, 0): [(0, 0, 0)]})
        self.assertEqual(len(table(task, 0)), 400)
        task = wide(3, {(k, k, k): [(0, 0, 0)] for k in range(133)} | {(133, 133, 0): [(0, 0, 0)]})
        self.assertEqual(self.fails(TooMany, table, task, 0).most, 400)


class Judged(Case):
    def test_of_drawn_dicts(self):
        source = Random(185)
        for _ in range(60):
            task = random_task(source, 3, 2, 2, 7)
            for rounds in (0, 1):
                found = table(task, rounds)
                pairs = sorted(plain_pairs(task, rounds), key=repr)
                for _ in range(6):
                    thing = found and dict(found) or {pair: source.randrange(2) for pair in pairs}
                    for pair in source.sample(pairs, source.randint(0, 2)):
                        thing[pair] = source.randrange(2)
                    self.assertIs(is_table(task, rounds, thing), is_plain_table(task, rounds, thing))

    def test_bent_in_one_place(self):
        for task, rounds in ((near(3, 2), 0), (leader(), 1), (few(3, 3, 2), 1)):
            found = table(task, rounds)
            first, last = list(found)[0], list(found)[-1]
            for pair in (first, last):
                for value in (None, True, False, "0", (0,), [0], {}, 99, -BIG, leader()):
                    self.assertIs(is_table(task, rounds, {**found, pair: value}), False)
                self.assertIs(is_table(task, rounds, {each: found[each] for each in found if each != pair}), False)
                me, view = pair
                for other in ((me,), (me, view, 0), (me + 1, view), (-1, view), (me, (99,)), (me, (view,)), me, view,
                              None, "pair", (view, me), ()):
                    self.assertIs(is_table(task, rounds, {**found, other: found[pair]}),
                                  other in found)
                    less = {each: found[each] for each in found if each != pair}
                    self.assertIs(is_table(task, rounds, {**less, other: found[pair]}), False)
            for thing in (list(found), list(found.items()), tuple(found.items()), (found,), [found], None, {}):
                self.assertIs(is_table(task, rounds, thing), False)
            self.assertIs(is_table(task, rounds, dict(reversed(list(found.items())))), True)

    def test_no_tables(self):
        for task, rounds in ((leader(), 0), (leader(), 1), (agreement(3, 2), 0), (near(3, 2), 1)):
            for thing in oddities() + [nested(30, lambda thing: {0: thing})]:
                self.assertIs(is_table(task, rounds, thing), False)

    def test_of_other_rounds(self):
        task = near(3, 2)
        told = [table(task, rounds) for rounds in (0, 1)]
        for rounds in (0, 1):
            for other in (0, 1):
                self.assertIs(is_table(task, rounds, told[other]), rounds == other)


class ByTables(Case):
    def test_solves_the_task(self):
        for task, rounds in ((near(3, 2), 0), (near(3, 3), 1), (few(3, 3, 2), 1), (leader(), 2), (leader(), 0)):
            folk = by_table(rounds, table(task, rounds))
            self.assertIs(type(folk), Folk)
            self.assertEqual(folk.rounds, rounds)
            self.assertIsNone(wrong_run(task, folk))

    def test_fact_a_folk_of_so_many_rounds_exactly_if_there_is_a_table(self):
        source = Random(186)
        for _ in range(60):
            task = random_task(source, 3, 4, 2, 5)
            for rounds in (0, 1):
                found = table(task, rounds)
                folk = by_table(rounds, found or {})
                self.assertEqual(wrong_run(task, folk) is None, found is not None)

    def test_what_stands_in_the_table(self):
        source = Random(187)
        for rounds in range(5):
            for many in (3, 4):
                inputs = tuple(source.randrange(3) for _ in range(many))
                pattern = random_pattern(source, many, rounds)
                views = [view_of(inputs, pattern, me) for me in range(many)]
                folk = by_table(rounds, {(me, view): 10 * me for me, view in enumerate(views)})
                self.assertEqual(answers(folk, inputs, pattern), tuple(10 * me for me in range(many)))
                folk = by_table(rounds, {(1, views[1]): -7, (0, views[0]): None, (2, views[2]): True})
                self.assertEqual(answers(folk, inputs, pattern), (None, -7) + (None,) * (many - 2))
                self.assertEqual(memories(folk, inputs, pattern)[-1], tuple(views))

    def test_none_where_nothing_stands(self):
        self.assertEqual(answers(by_table(0, {}), (1, 2, 3), ()), (None, None, None))
        folk = by_table(1, table(leader(), 1))
        self.assertEqual(answers(folk, (0, 0, 7), shut_out(3, 1, 2))[:2],
                         answers(folk, (0, 0, 0), shut_out(3, 1, 2))[:2])
        self.assertEqual(answers(folk, (0, 0, 7), plain(3, 1)), (None, None, None))
        self.assertEqual(answers(folk, (0,) * 5, plain(5, 1)), (None,) * 5)

    def test_what_is_done_later_to_the_dict(self):
        found = table(leader(), 1)
        folk = by_table(1, found)
        found.clear()
        self.assertIsNone(wrong_run(leader(), folk))
        found.update({pair: 5 for pair in plain_pairs(leader(), 1)})
        self.assertIsNone(wrong_run(leader(), folk))

    def test_all_patterns_of_two_rounds(self):
        task = task_of(3, {(0, 0, 0): [(0, 0, 0), (0, 0, 1), (0, 1, 1), (1, 1, 1)]})
        found = table(task, 2)
        self.assertEqual(len(found), 135)
        self.assertIs(is_table(task, 2, found), True)
        folk = by_table(2, found)
        for pattern in plain_patterns(3, 2):
            self.assertIn(answers(folk, (0, 0, 0), pattern), lot_of(task, (0, 0, 0)))
