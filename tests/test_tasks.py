"""Points 6 and 7: tasks and rests."""

from itertools import product

from onesilent.errors import BadTask, NoInputs, NoMachine, NoNumber, NoRest, NoRow
from onesilent.tasks import Task, completing, inputs_of, lot_of, put_in, rest_of, rests
from tests.cases import Case
from tests.samples import agreement, leader, oddities, plain_rest, task_of, wide

BIG = 10 ** 109 + 7
ROW = (0, 0, 0)
LOT = (ROW,)
PAIR = (ROW, LOT)


class MadeTasks(Case):
    def bad(self, part, many, lots):
        self.assertEqual(self.fails(BadTask, Task, many, lots).part, part)

    def test_attributes(self):
        lots = ((ROW, ((0, 0, 1), (0, 2, 0))), ((0, 9, 9999), ((9999, 9999, 9999),)))
        task = Task(3, lots)
        self.assertEqual(vars(task), {"many": 3, "lots": lots})

    def test_each_number_of_machines(self):
        for many in (3, 4, 5):
            row = tuple(range(many))
            self.assertEqual(Task(many, ((row, (row,)),)).many, many)
        for many in (2, 6, 0, -3, "3", None, True, (3,), [3], BIG):
            self.bad("many", many, (((0, 0), ((0, 0),)),))

    def test_numbers_of_pairs(self):
        for count in (1, 2, 59, 60):
            self.assertEqual(len(inputs_of(Task(3, tuple(((k, 0, 0), LOT) for k in range(count))))), count)
        for count in (0, 61, 62, 400):
            self.bad("lots", 3, tuple(((k, 0, 0), LOT) for k in range(count)))

    def test_lots_are_a_tuple(self):
        for lots in (None, [PAIR], {ROW: LOT}, "lots", 1, True, leader(), iter([PAIR])):
            self.bad("lots", 3, lots)

    def test_numbers_of_rows(self):
        for count in (1, 2, 59, 60):
            lot = tuple((0, k, 0) for k in range(count))
            self.assertEqual(lot_of(Task(3, ((ROW, lot),)), ROW), lot)
        for count in (0, 61, 400):
            self.bad(0, 3, ((ROW, tuple((0, k, 0) for k in range(count))),))

    def test_bounds_of_numbers(self):
        for value in (0, 1, 9998, 9999):
            for i in range(4):
                row = (5,) * i + (value,) + (5,) * (3 - i)
                self.assertEqual(inputs_of(Task(4, ((row, (row,)),))), [row])
        for value in (-1, 10000, BIG, -BIG, True, False, None, "1", (1,), [1], {}, leader()):
            for i in range(4):
                row = (5,) * i + (value,) + (5,) * (3 - i)
                self.bad(0, 4, ((row, ((5,) * 4,)),))
                self.bad(0, 4, (((5,) * 4, (row,)),))

    def test_lengths_of_rows(self):
        for many, length in product((3, 4, 5), (0, 1, 2, 3, 4, 5, 6)):
            if many != length:
                self.bad(0, many, (((0,) * length, ((0,) * many,)),))
                self.bad(0, many, (((0,) * many, ((0,) * length,)),))
                self.bad(0, many, (((0,) * many, ((0,) * many, (1,) * length)),))

    def test_lots_are_ascending(self):
        one, other, third = (0, 0, 1), (0, 1, 0), (1, 0, 0)
        self.assertEqual(lot_of(Task(3, ((ROW, (one, other, third)),)), ROW), (one, other, third))
        for lot in ((other, one), (one, one), (one, third, other), (one, other, other), (third, one, other)):
            self.bad(0, 3, ((ROW, lot),))

    def test_inputs_are_ascending(self):
        one, other, third = ((0, 0, 1), LOT), ((0, 1, 0), LOT), ((1, 0, 0), LOT)
        self.assertEqual(Task(3, (one, other, third)).lots, (one, other, third))
        self.bad(1, 3, (other, one))
        self.bad(1, 3, (one, one))
        self.bad(1, 3, (third, one, other))
        self.bad(2, 3, (one, third, other))
        self.bad(2, 3, (one, other, other))
        self.bad(1, 3, (one, ((0, 0, 1), ((0, 0, 5),))))

    def test_pairs_that_are_none(self):
        for pair in (*oddities(), (ROW,), (ROW, LOT, LOT), [ROW, LOT], ([0, 0, 0], LOT), (ROW, [ROW]), (ROW, ROW),
                     (ROW, (list(ROW),)), (ROW, {ROW: True}), (ROW, ()), (ROW, None), (None, LOT), (LOT, ROW)):
            self.bad(0, 3, (pair,))
            self.bad(0, 3, (pair, PAIR))
            self.bad(1, 3, (PAIR, pair))
            self.bad(2, 3, (PAIR, ((0, 0, 1), LOT), pair, pair))

    def test_the_first_bad_pair_is_told(self):
        many_pairs = [((k, 0, 0), LOT) for k in range(60)]
        for k in (0, 1, 30, 58, 59):
            pairs = list(many_pairs)
            pairs[k:] = [((k, 0, 0), ())] * (60 - k)
            self.bad(k, 3, tuple(pairs))
        self.bad(1, 3, (PAIR, PAIR, None))
        self.bad(0, 3, (None, PAIR, PAIR))

    def test_many_is_checked_ahead_of_lots(self):
        for thing in oddities():
            self.bad("many", thing, thing)
            self.bad("many", thing, (PAIR,))
            self.assertIn(self.fails(BadTask, Task, 3, thing).part, ("lots", 0))
        for lots in ((), None, (None,)):
            self.bad("many", 6, lots)

    def test_equal_if_both_are(self):
        task = agreement(3, 2)
        self.assertTrue(task == agreement(3, 2))
        self.assertFalse(task != agreement(3, 2))
        self.assertFalse(task == agreement(3, 3))
        self.assertTrue(task != agreement(3, 3))
        self.assertFalse(task == Task(3, task.lots[:-1]))
        self.assertFalse(Task(3, ((ROW, ((0, 0, 1),)),)) == Task(3, ((ROW, ((0, 0, 2),)),)))
        self.assertFalse(wide(3, {ROW: [ROW]}) == wide(4, {ROW: [ROW]}))
        for thing in oddities() + [task.lots, (3, task.lots)]:
            self.assertFalse(task == thing)
            self.assertTrue(task != thing)
            self.assertFalse(thing == task)


class Inputs(Case):
    def test_inputs_of(self):
        task = task_of(4, {(0, 0, 0, 7): [(1, 1, 1, 1)], (0, 0, 0, 0): [(2, 2, 2, 2)], (9, 0, 0, 0): [(3, 3, 3, 3)]})
        self.assertEqual(inputs_of(task), [(0, 0, 0, 0), (0, 0, 0, 7), (9, 0, 0, 0)])
        self.assertEqual(inputs_of(leader()), [ROW])

    def test_lot_of(self):
        task = agreement(3, 3)
        self.assertEqual(lot_of(task, (0, 1, 0)), ((0, 0, 0), (1, 1, 1)))
        self.assertEqual(lot_of(task, (2, 2, 2)), ((2, 2, 2),))
        self.assertEqual(lot_of(task, (0, 0, 0)), ((0, 0, 0),))
        for inputs, lot in task.lots:
            self.assertEqual(lot_of(task, inputs), lot)

    def test_no_inputs(self):
        task = agreement(3, 2)
        for thing in oddities() + [(0, 0, 2), (2, 2, 2), (0, 0, 0, 0), [0, 0, 1], (0, 0, True), (True, False, 1),
                                   (-1, 0, 0), (0, 0, BIG), (0, 0, "1"), ((0, 0, 0),), ((0, 0, 0), (0, 0, 1))]:
            self.fails(NoInputs, lot_of, task, thing)

    def test_beyond_the_bounds_of_the_constructor(self):
        table = {(k, BIG, 0): [(n, k, BIG) for n in range(70)] for k in range(400)}
        task = wide(3, table)
        self.assertEqual(inputs_of(task), sorted(table))
        self.assertEqual(len(lot_of(task, (399, BIG, 0))), 70)
        self.fails(NoInputs, lot_of, task, (400, BIG, 0))
        self.assertEqual(completing(task, (0, (BIG, 0))), sorted(table))
        self.assertEqual(len(rests(task)), 801)


class Rests(Case):
    def test_rest_of(self):
        self.assertEqual(rest_of((7, 8, 9), 0), (0, (8, 9)))
        self.assertEqual(rest_of((7, 8, 9), 1), (1, (7, 9)))
        self.assertEqual(rest_of((7, 8, 9), 2), (2, (7, 8)))
        self.assertEqual(rest_of((7, 8, 9, 7), 3), (3, (7, 8, 9)))
        self.assertEqual(rest_of((5, 4, 3, 2, 1), 4), (4, (5, 4, 3, 2)))
        self.assertEqual(rest_of((-5, BIG, -BIG), 0), (0, (BIG, -BIG)))

    def test_rest_of_no_row(self):
        for thing in oddities() + [[1, 2, 3], (1, 2), (1,) * 6, (1, 2, True), (1, None, 3)]:
            self.fails(NoRow, rest_of, thing, 0)
            self.fails(NoRow, rest_of, thing, None)

    def test_rest_of_no_machine(self):
        for many in (3, 4, 5):
            row = tuple(range(many))
            for thing in oddities() + [many, many + 1, -1, -many, True, False, "0", None, (0,), [0], BIG]:
                self.fails(NoMachine, rest_of, row, thing)

    def test_put_in(self):
        self.assertEqual(put_in((0, (8, 9)), 7), (7, 8, 9))
        self.assertEqual(put_in((1, (7, 9)), 8), (7, 8, 9))
        self.assertEqual(put_in((2, (7, 8)), 9), (7, 8, 9))
        self.assertEqual(put_in((4, (1, 2, 3, 4)), -BIG), (1, 2, 3, 4, -BIG))
        self.assertEqual(put_in((0, (-1, BIG, 0)), 0), (0, -1, BIG, 0))

    def test_put_in_and_rest_of_undo_each_other(self):
        for many in (3, 4, 5):
            row = tuple(3 * k - 5 for k in range(many))
            for i in range(many):
                self.assertEqual(put_in(rest_of(row, i), row[i]), row)
                self.assertEqual(rest_of(put_in((i, row[:-1]), 99), i), (i, row[:-1]))

    def test_put_in_no_rest(self):
        for thing in oddities() + [(3, (1, 2)), (4, (1, 2, 3)), (5, (1, 2, 3, 4)), (-1, (1, 2)), (0, (1,)), (0, [1, 2]),
                                   [0, (1, 2)], (0, (1, 2, 3, 4, 5)), (True, (1, 2)), (0, (1, True)), (0, (1, 2), 3),
                                   (0, 1, 2), ((1, 2), 0), (0,), (None, (1, 2)), (BIG, (1, 2)), (0, (1, "2"))]:
            self.fails(NoRest, put_in, thing, 1)
            self.fails(NoRest, put_in, thing, None)

    def test_put_in_no_number(self):
        numbers = [thing for thing in oddities() if type(thing) is not int]
        for thing in numbers + [True, False, None, "1", (1,), [1], {1: 1}]:
            self.fails(NoNumber, put_in, (0, (1, 2)), thing)

    def test_rests(self):
        task = task_of(3, {(0, 0, 0): [ROW], (0, 0, 1): [ROW], (1, 0, 0): [ROW]})
        self.assertEqual(rests(task), [
            (0, (0, 0)), (0, (0, 1)), (1, (0, 0)), (1, (0, 1)), (1, (1, 0)), (2, (0, 0)), (2, (1, 0))])
        self.assertEqual(rests(leader()), [(0, (0, 0)), (1, (0, 0)), (2, (0, 0))])
        for many in (3, 4, 5):
            task = agreement(many, 2)
            found = rests(task)
            self.assertEqual(found, sorted(set(found)))
            self.assertEqual(len(found), many * 2 ** (many - 1))

    def test_completing(self):
        task = task_of(3, {(0, 0, 0): [ROW], (0, 0, 1): [ROW], (1, 0, 0): [ROW]})
        self.assertEqual(completing(task, (0, (0, 0))), [(0, 0, 0), (1, 0, 0)])
        self.assertEqual(completing(task, (0, (0, 1))), [(0, 0, 1)])
        self.assertEqual(completing(task, (2, (0, 0))), [(0, 0, 0), (0, 0, 1)])
        for many in (3, 4, 5):
            task = agreement(many, 2)
            for rest in rests(task):
                plain = [inputs for inputs in inputs_of(task) if plain_rest(inputs, rest[0]) == rest]
                self.assertEqual(completing(task, rest), plain)
                self.assertEqual(len(plain), 2)

    def test_completing_no_rest(self):
        task = task_of(3, {(0, 0, 0): [ROW], (0, 0, 1): [ROW], (1, 0, 0): [ROW]})
        for thing in oddities() + [(0, (1, 0)), (1, (1, 1)), (3, (0, 0)), (3, (0, 0, 0)), (0, (0, 0, 0)), (2, (0, 1)),
                                   (-1, (0, 0)), (False, (0, 0)), (0, (0, True)), (0, [0, 0]), [0, (0, 0)],
                                   (0, (0, 0), 0), (0, 0, 0), (0, (0, BIG))]:
            self.fails(NoRest, completing, task, thing)
        # A pair of one machine too many and whole inputs: a rest of a longer row, not of the task.
        self.fails(NoRest, completing, task, (3, (0, 0, 1)))
        self.fails(NoRest, completing, agreement(4, 2), (4, (0, 0, 0, 0)))
        self.fails(NoRest, completing, agreement(4, 2), (0, (0, 0)))
