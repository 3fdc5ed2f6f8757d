"""Points 2, 3 and 4: what holds for every function."""

from copy import deepcopy

from onesilent.errors import BadTask, NoChoice, NoInputs, NoLot, NoMachine, NoNumber, NoRest, NoRow
from onesilent.lots import parts, way
from onesilent.plans import choices, covers, is_choice, is_plan, plan
from onesilent.tasks import Task, completing, inputs_of, lot_of, put_in, rest_of, rests
from tests.cases import Case
from tests.samples import agreement, apart, deep_bar, leader, nested, oddities, wide

ROW = (0, 0, 0)
LOT = ((0, 0, 0), (0, 0, 1), (1, 1, 1))


def sound_calls():
    """A call of each function that tells something, with arguments made anew."""
    task = apart([2, 1, 3])
    return [
        (inputs_of, (task,)), (lot_of, (task, ROW)), (rest_of, (ROW, 1)), (put_in, ((1, (0, 0)), 5)), (rests, (task,)),
        (completing, (task, (0, (0, 0)))), (parts, (LOT,)), (way, (LOT, ROW, (0, 0, 1))), (way, (LOT, ROW, (1, 1, 1))),
        (is_choice, (task, (1, 0, 2))), (covers, (task, (1, 0, 2), (0, (2, 2)))), (plan, (task,)),
        (plan, (agreement(3, 2),)), (is_plan, (task, plan(task))), (choices, (task,)), (choices, (leader(),)),
    ]


def same(one, other):
    """Equal, and flags are no integers."""
    if type(one) is not type(other):
        return False
    if isinstance(one, (list, tuple)):
        return len(one) == len(other) and all(same(a, b) for a, b in zip(one, other))
    if isinstance(one, dict):
        return same(list(one.items()), list(other.items()))
    return one == other


def containers(thing):
    """All lists and dicts within a thing."""
    found = []
    if isinstance(thing, (list, dict)):
        found.append(thing)
    if isinstance(thing, dict):
        thing = [*thing.keys(), *thing.values()]
    if isinstance(thing, (list, tuple)):
        for item in thing:
            found.extend(containers(item))
    return found


class Results(Case):
    def test_equal_calls_give_equal_results(self):
        for (function, one), (_, other) in zip(sound_calls(), sound_calls()):
            first = function(*one)
            self.assertTrue(same(first, function(*one)), function.__name__)
            self.assertTrue(same(first, function(*other)), function.__name__)

    def test_each_list_and_dict_is_new(self):
        for function, arguments in sound_calls():
            first = function(*arguments)
            kept = deepcopy(first)
            for each in containers(first):
                each.clear()
            self.assertTrue(same(function(*arguments), kept), function.__name__)

    def test_the_results_are_of_the_kinds_told(self):
        kinds = [list, tuple, tuple, tuple, list, list, list, tuple, type(None), bool, list, tuple, type(None), bool,
                 list, list]
        for (function, arguments), kind in zip(sound_calls(), kinds, strict=True):
            self.assertIs(type(function(*arguments)), kind, function.__name__)

    def test_what_is_listed_is_of_tuples_of_integers(self):
        task = agreement(4, 2)
        for listed in (inputs_of(task), choices(apart([2, 2])), covers(leader(), (0,), (0, (0, 0))), parts(LOT)[0]):
            for row in listed:
                self.assertIs(type(row), tuple)
                self.assertEqual({type(item) for item in row}, {int})
        for part in parts(LOT):
            self.assertIs(type(part), tuple)
        for i, others in rests(task):
            self.assertEqual((type(i), type(others)), (int, tuple))


class Arguments(Case):
    def test_nothing_handed_in_is_changed(self):
        for function, arguments in sound_calls():
            task = arguments[0] if isinstance(arguments[0], Task) else None
            kept = [deepcopy(vars(task)) if task is not None else None, deepcopy(arguments[1:])]
            function(*arguments)
            self.assertTrue(same([vars(task) if task is not None else None, arguments[1:]], kept), function.__name__)

    def test_odd_things_are_not_changed(self):
        task = apart([2, 1, 3])
        for thing, kept in zip(oddities(), oddities()):
            is_choice(task, thing)
            is_plan(task, (thing, thing))
            is_plan(task, ((0, 0, 0), {rest: thing for rest in rests(task)}))
            for function in (parts, lambda value: lot_of(task, value), lambda value: covers(task, value, value)):
                with self.assertRaises(ValueError):
                    function(thing)
            self.assertEqual(repr(thing)[:1] == "<" or same(list(containers(thing)), list(containers(kept))), True)

    def test_what_is_done_later_to_a_plan_changes_nothing(self):
        task = apart([2, 1, 3])
        choice, told = plan(task)
        self.assertIs(is_plan(task, (choice, told)), True)
        told.clear()
        self.assertIs(is_plan(task, (choice, told)), False)
        self.assertIs(is_plan(task, plan(task)), True)

    def test_what_was_returned_may_be_passed_on(self):
        task = wide(3, {(k, k % 2, 0): [(n, n % 3, 0) for n in range(200)] for k in range(400)})
        found = plan(task)
        self.assertIs(is_choice(task, found[0]), True)
        self.assertIs(is_plan(task, found), True)
        lot = lot_of(task, inputs_of(task)[399])
        self.assertEqual(sum(len(part) for part in parts(lot)), 200)
        for rest in rests(task)[:3]:
            self.assertIn(found[1][rest], covers(task, found[0], rest))
            self.assertIn(put_in(rest, completing(task, rest)[0][rest[0]]), inputs_of(task))


class OrderOfChecks(Case):
    def test_the_first_wrong_argument_is_told(self):
        task = apart([2, 1, 3])
        for one in (None, True, [], {}, "row", (0, 0), leader(), nested(30, lambda thing: [thing])):
            for other in (None, False, [], {}, "rest", leader(), nested(30, lambda thing: (thing,))):
                self.fails(NoRow, rest_of, one, other)
                self.fails(NoRest, put_in, one, other)
                self.fails(NoLot, way, one, other, other)
                self.fails(NoLot, way, one, ROW, other)
                self.fails(NoRow, way, LOT, one, other)
                self.fails(NoChoice, covers, task, one, other)
                self.assertEqual(self.fails(BadTask, Task, one, other).part, "many")
                self.assertEqual(self.fails(BadTask, Task, 3, ((ROW, one), other)).part, 0)

    def test_the_later_ones_are_looked_at_when_the_first_are_right(self):
        task = apart([2, 1, 3])
        for thing in (None, True, [], {}, "row", leader(), nested(30, lambda thing: {0: thing})):
            self.fails(NoMachine, rest_of, ROW, thing)
            self.fails(NoNumber, put_in, (0, (0, 0)), thing)
            self.fails(NoRow, way, LOT, ROW, thing)
            self.fails(NoRest, covers, task, (0, 0, 0), thing)
            self.fails(NoRest, completing, task, thing)
            self.fails(NoInputs, lot_of, task, thing)


class Depths(Case):
    def test_deep_things_are_judged(self):
        task = apart([2, 1, 3])
        for thing in (deep_bar(100), deep_bar(800), nested(30, lambda thing: ({0: [thing]},))):
            for inner in (thing, (thing,), ((0, 0, 0), thing), (thing, thing, thing), (0, thing), (0, (0, thing))):
                self.assertIs(is_choice(task, inner), False)
                self.assertIs(is_plan(task, inner), False)
                self.assertIs(is_plan(task, ((0, 0, 0), {rest: inner for rest in rests(task)})), False)
                self.fails(NoLot, parts, inner)
                self.fails(NoLot, way, inner, inner, inner)
                self.fails(NoRow, way, LOT, inner, inner)
                self.fails(NoRow, rest_of, inner, inner)
                self.fails(NoMachine, rest_of, ROW, inner)
                self.fails(NoRest, put_in, inner, inner)
                self.fails(NoNumber, put_in, (0, (0, 0)), inner)
                self.fails(NoRest, completing, task, inner)
                self.fails(NoInputs, lot_of, task, inner)
                self.fails(NoChoice, covers, task, inner, inner)
                self.fails(NoRest, covers, task, (0, 0, 0), inner)
                self.assertEqual(self.fails(BadTask, Task, inner, inner).part, "many")
                self.assertIn(self.fails(BadTask, Task, 3, inner).part, ("lots", 0))
                self.assertIs(task == inner, False)

    def test_no_recursion_over_what_is_long(self):
        lot = tuple((k, k, k) for k in range(5000))
        self.assertEqual(len(parts(lot)), 5000)
        self.assertIsNone(way(lot, lot[0], lot[-1]))
        comb = tuple(sorted((k // 2 + k % 2, k // 2, 0) for k in range(5000)))
        self.assertEqual(len(way(comb, comb[0], comb[-1])), 5000)
        chain = {(k // 2 + k % 2, k // 2, 0): [(n, n, n) for n in range(2)] for k in range(2000)}
        found = plan(wide(3, chain))
        self.assertEqual(len(set(found[0])), 1)
        chain[(0, 0, 0)] = [(0, 0, 0)]
        chain[(1000, 999, 0)] = [(1, 1, 1)]
        self.assertIsNone(plan(wide(3, chain)))
