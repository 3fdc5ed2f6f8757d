"""Points 2, 3, 4 and 5: what holds for every function."""

from copy import deepcopy

from onesilent.algebra import behind, beside, beside_plan, fewer, folk_behind, wider
from onesilent.bars import bar, is_bar
from onesilent.chain import alike_for, chain_at, known, mover
from onesilent.desk import Desk, recovered
from onesilent.errors import BadTask, BadText, NoBar, NoChoice, NoEvent, NoFunction, NoInputs, NoLine, NoLot, NoMachine
from onesilent.errors import NoNumber, NoOffers, NoPattern, NoPlan, NoRest, NoRow, NoSome, NoText, NoWord
from onesilent.families import agreement as family_agreement, few as family_few, leader as family_leader
from onesilent.families import family_planned, near, unlike
from onesilent.foes import found_wrong, is_wrong, trials
from onesilent.folks import Folk, answers, memories, wrong_run
from onesilent.leading import is_true, led
from onesilent.lots import parts, way
from onesilent.making import longest, rounds_enough, told_folk
from onesilent.mending import greatest, kernel, mended
from onesilent.nets import Net
from onesilent.patterns import count_patterns, is_pattern, pattern_at, pattern_number, plain, shut_out
from onesilent.plans import choices, covers, is_choice, is_plan, plan
from onesilent.refusals import fewest_rounds, is_refusal, refusal, span
from onesilent.sure import is_sparing, is_sure_plan, silences, sure_bar, sure_folk, sure_plan
from onesilent.tasks import Task, completing, inputs_of, lot_of, put_in, rest_of, rests
from onesilent.texts import bar_text, pattern_text, read_bar, read_pattern, read_task, task_text
from onesilent.views import by_table, is_table, table, view_of
from tests.cases import Case
from tests.samples import agreement, apart, climbing, deep_bar, leader, nested, oddities, silent_folk, wide
from tests.test_interface import CLASSES, FUNCTIONS
from tests.test_nets import told_by

ROW = (0, 0, 0)
LOT = ((0, 0, 0), (0, 0, 1), (1, 1, 1))
TURN = (None, 0, 0)
NONE = type(None)
DRAFT = ("task a 3", "let a 0,0,0 0,0,0", "let a 0,0,0 1,1,1", "let a 0,0,1 0,0,0")


def lister():
    """A folk of two rounds whose machines remember lists and dicts."""
    return Folk(2, lambda me, value: [me, {"value": [value]}], lambda me, at, heard: (heard[me], [at]),
                lambda me, memory: me)


def sound_calls():
    """A call of each function that tells something, with arguments made anew, and the kind of what it tells."""
    task, barred, far = apart([2, 1, 3]), agreement(3, 2), climbing(3, 3)
    return [
        (inputs_of, (task,), list), (lot_of, (task, ROW), tuple), (rest_of, (ROW, 1), tuple),
        (put_in, ((1, (0, 0)), 5), tuple), (rests, (task,), list), (completing, (task, (0, (0, 0))), list),
        (parts, (LOT,), list), (way, (LOT, ROW, (0, 0, 1)), tuple), (way, (LOT, ROW, (1, 1, 1)), NONE),
        (is_choice, (task, (1, 0, 2)), bool), (covers, (task, (1, 0, 2), (0, (2, 2))), list), (plan, (task,), tuple),
        (plan, (barred,), NONE), (is_plan, (task, plan(task)), bool), (choices, (task,), list),
        (choices, (leader(),), list), (bar, (task,), NONE), (bar, (barred,), tuple),
        (is_bar, (barred, bar(barred)), bool),
        (is_bar, (task, None), bool), (is_pattern, (3, 1, (TURN,)), bool), (plain, (3, 2), tuple),
        (shut_out, (4, 2, 3), tuple), (count_patterns, (5, 30), int), (pattern_at, (3, 2, 700), tuple),
        (pattern_number, (3, (TURN,)), int), (chain_at, (3, (TURN,), ((None, None, 1),), 2), tuple),
        (mover, (3, 2, 7), tuple), (known, (3, (TURN, TURN)), tuple),
        (alike_for, (ROW, (TURN,), (0, 0, 1), (TURN,)), tuple), (answers, (lister(), ROW, (TURN, TURN)), tuple),
        (memories, (lister(), ROW, (TURN, TURN)), list), (wrong_run, (leader(), silent_folk()), tuple),
        (wrong_run, (agreement(3, 1), by_table(1, table(agreement(3, 1), 1))), NONE), (longest, (far, plan(far)), int),
        (rounds_enough, (far, plan(far)), int), (told_folk, (far, plan(far)), Folk),
        (found_wrong, (barred, lister()), tuple), (is_wrong, (barred, lister(), (ROW, (TURN, TURN))), bool),
        (trials, (task, 30), int), (view_of, (ROW, (TURN, TURN), 1), tuple), (table, (leader(), 1), dict),
        (table, (barred, 1), NONE), (is_table, (leader(), 1, table(leader(), 1)), bool), (by_table, (1, {}), Folk),
        (by_table, (1, table(leader(), 1)), Folk), (refusal, (leader(), 1), NONE), (refusal, (barred, 1), tuple),
        (is_refusal, (barred, 1, refusal(barred, 1)), bool), (fewest_rounds, (far, 0), NONE),
        (fewest_rounds, (leader(), 3), int), (span, (far, plan(far)), int),
    ] + calls_of_tasks_put_together() + calls_of_nets_and_texts()


def calls_of_tasks_put_together():
    """Calls of the functions of the points 20 to 23."""
    barred, small, some = agreement(3, 2), apart([2, 1]), (0, 2)
    told = sure_plan(barred, some)
    offers = ((ROW, (0, 0, 1)), ((0, 0, 1), (0, 0, 1)), ((0, 0, 1), (0, 1, 1)))
    return [
        (is_sparing, (some, (TURN,)), bool), (sure_plan, (barred, some), dict), (sure_plan, (barred, ()), dict),
        (sure_plan, (mutes(), (2,)), NONE), (is_sure_plan, (barred, some, told), bool),
        (sure_bar, (barred, some), NONE), (sure_bar, (mutes(), (2,)), tuple), (sure_folk, (barred, some, told), Folk),
        (silences, (barred,), list), (silences, (mutes(),), list), (silences, (small,), list),
        (beside, (small, barred), Task), (beside_plan, (small, leader(), plan(small), plan(leader())), tuple),
        (behind, (small, apart([1, 2, 3])), Task), (folk_behind, (lister(), lister()), Folk),
        (fewer, (barred, (ROW, (0, 0, 1))), Task), (wider, (barred, offers), Task), (kernel, (barred,), tuple),
        (kernel, (small,), NONE), (greatest, (barred,), list), (mended, (barred, offers), NONE),
        (mended, (mutes(), ((ROW, (1, 1, 1)),)), tuple), (family_agreement, (3, 2), Task),
        (family_few, (3, 2, 2), Task), (near, (3, 3), Task), (family_leader, (4,), Task), (unlike, (4, 5), Task),
        (family_planned, ("unlike", 9, 8, None), bool),
    ]


def calls_of_nets_and_texts():
    """Calls of the functions and methods of the points 24 to 27."""
    barred, net, desk = agreement(3, 2), Net(lister(), ROW), Desk()
    for line in DRAFT:
        desk.tell(line)
    return [
        (Net, (lister(), ROW), Net), (net.is_event, (("come", 0),), bool), (net.bag, (), list), (net.up, (), tuple),
        (net.at, (), tuple), (net.missed, (), tuple), (net.answers, (), tuple), (net.copy, (), Net),
        (net.copy().settled, (1,), NONE), (net.copy().settled, (None,), NONE),
        (led, (net, lambda copy: ("again", 1), 5), Net), (led, (net, lambda copy: None, 5), Net),
        (is_true, (barred, net, (None, 0, None)), bool), (task_text, (barred,), str),
        (read_task, (task_text(barred),), Task), (pattern_text, ((TURN, TURN),), str),
        (read_pattern, (3, "- 0 1\n"), tuple), (bar_text, (barred, bar(barred)), str),
        (read_bar, (barred, bar_text(barred, bar(barred))), tuple), (Desk, (), Desk), (desk.tell, ("show a",), str),
        (desk.tell, ("can a",), str), (desk.tell, ("parts a 0,0,0",), str), (desk.journal, (), str),
        (recovered, ("task a 3\nlet a 0,0,0 1,1,1\nundo\n",), tuple),
    ]


def mutes():
    """A task in which machine 2 may not be missed."""
    return Task(3, ((ROW, (ROW,)), ((0, 0, 1), ((1, 1, 1),))))


def same(one, other):
    """Equal, and flags are no integers."""
    if type(one) is not type(other):
        return False
    if isinstance(one, (list, tuple)):
        return len(one) == len(other) and all(same(a, b) for a, b in zip(one, other))
    if isinstance(one, dict):
        return same(list(one.items()), list(other.items()))
    if isinstance(one, Folk):
        return same([one.rounds, tried(one)], [other.rounds, tried(other)])
    if isinstance(one, Net):
        return same(told_by(one), told_by(other))
    if isinstance(one, Desk):
        return one.journal() == other.journal()
    return one == other


def tried(folk):
    """What a folk answers to some inputs by some patterns."""
    return [answers(folk, inputs, pattern) for inputs in (ROW, (0, 0, 1), (0, 1, 1))
            for pattern in (plain(3, folk.rounds), shut_out(3, folk.rounds, 2))]


def held_by(arguments):
    """The arguments, with what tasks among them hold."""
    return [vars(each) if isinstance(each, Task) else told_by(each) if isinstance(each, Net) else
            None if isinstance(each, Folk) or callable(each) else each for each in arguments]


def containers(thing):
    """All lists and dicts within a thing."""
    found = []
    if isinstance(thing, (list, dict)):
        found.append(thing)
    if isinstance(thing, dict):
        thing = [*thing.keys(), *thing.values()]
    if isinstance(thing, (list, tuple)):
        for item in thing:
            found.extend(containers(item))
    return found


class Results(Case):
    def test_equal_calls_give_equal_results(self):
        for (function, one, _), (_, other, _) in zip(sound_calls(), sound_calls()):
            first = function(*one)
            self.assertTrue(same(first, function(*one)), function.__name__)
            self.assertTrue(same(first, function(*other)), function.__name__)

    def test_each_list_and_dict_is_new(self):
        for function, arguments, _ in sound_calls():
            first = function(*arguments)
            found = containers(first)
            self.assertEqual(len({id(each) for each in found}), len(found))
            self.assertFalse({id(each) for each in found} & {id(each) for each in containers(list(arguments))})
            kept = deepcopy(first)
            for each in found:
                each.clear()
            self.assertTrue(same(function(*arguments), kept), function.__name__)

    def test_the_results_are_of_the_kinds_told(self):
        for function, arguments, kind in sound_calls():
            self.assertIs(type(function(*arguments)), kind, function.__name__)

    def test_each_function_and_class_is_called_here(self):
        # So that what holds for every function is tested over all files of the package.
        called = {function.__name__ for function, _, _ in sound_calls()}
        listed = {name for names in FUNCTIONS.values() for name in names}
        listed |= {name for names in CLASSES.values() for name in names} - {"Task", "Folk"}
        self.assertEqual(listed - called, set())

    def test_what_is_listed_is_of_tuples_of_integers(self):
        task = agreement(4, 2)
        for listed in (inputs_of(task), choices(apart([2, 2])), covers(leader(), (0,), (0, (0, 0))), parts(LOT)[0]):
            for row in listed:
                self.assertIs(type(row), tuple)
                self.assertEqual({type(item) for item in row}, {int})
        for part in parts(LOT):
            self.assertIs(type(part), tuple)
        for i, others in rests(task):
            self.assertEqual((type(i), type(others)), (int, tuple))


class Arguments(Case):
    def test_nothing_handed_in_is_changed(self):
        for function, arguments, _ in sound_calls():
            kept = deepcopy(held_by(arguments))
            function(*arguments)
            self.assertTrue(same(held_by(arguments), kept), function.__name__)

    def test_odd_things_are_not_changed(self):
        task = apart([2, 1, 3])
        for thing, kept in zip(oddities(), oddities()):
            is_choice(task, thing)
            is_plan(task, (thing, thing))
            is_plan(task, ((0, 0, 0), {rest: thing for rest in rests(task)}))
            is_bar(task, thing)
            is_bar(task, ("parts", (0, 0, 0), (thing, thing)))
            is_pattern(3, 1, (thing,))
            is_wrong(task, silent_folk(), (thing, thing))
            is_table(leader(), 0, thing)
            is_table(leader(), 0, {(me, (0,)): thing for me in range(3)})
            is_refusal(leader(), 0, ("view", 0, (0,), {0: thing, 1: thing}))
            is_sparing((0, 1), thing)
            is_sparing((0, 1), (thing,))
            is_sure_plan(task, (0,), thing)
            is_sure_plan(task, (0,), {(0, (k, k)): thing for k in range(3)})
            net = Net(silent_folk(), ROW)
            net.is_event(thing)
            net.is_event(("come", thing))
            is_true(leader(), net, thing)
            is_true(leader(), net, (thing, thing, thing))
            for function in (parts, lambda value: lot_of(task, value), lambda value: covers(task, value, value)):
                with self.assertRaises(ValueError):
                    function(thing)
            self.assertEqual(repr(thing)[:1] == "<" or same(list(containers(thing)), list(containers(kept))), True)

    def test_what_is_done_later_to_a_plan_changes_nothing(self):
        task = apart([2, 1, 3])
        choice, told = plan(task)
        self.assertIs(is_plan(task, (choice, told)), True)
        told.clear()
        self.assertIs(is_plan(task, (choice, told)), False)
        self.assertIs(is_plan(task, plan(task)), True)

    def test_what_was_returned_may_be_passed_on(self):
        task = wide(3, {(k, k % 2, 0): [(n, n % 3, 0) for n in range(200)] for k in range(400)})
        found = plan(task)
        self.assertIs(is_choice(task, found[0]), True)
        self.assertIs(is_plan(task, found), True)
        lot = lot_of(task, inputs_of(task)[399])
        self.assertEqual(sum(len(part) for part in parts(lot)), 200)
        for rest in rests(task)[:3]:
            self.assertIn(found[1][rest], covers(task, found[0], rest))
            self.assertIn(put_in(rest, completing(task, rest)[0][rest[0]]), inputs_of(task))


class ManyErrors(Case):
    def test_each_argument_is_checked_whole_ahead_of_the_next_one(self):
        folk, task = silent_folk(), apart([2, 1, 3])
        net = Net(folk, ROW)
        wrongs = (None, True, [], {}, "", 1.0, (7,), BadTask("many"), leader(), folk, nested(30, lambda thing: [thing]))
        for one in wrongs:
            for other in wrongs:
                for function, arguments, kind in (
                    (is_pattern, (one, other, other), NoNumber), (is_pattern, (3, one, other), NoNumber),
                    (plain, (one, other), NoNumber), (plain, (3, one), NoNumber),
                    (shut_out, (one, other, other), NoNumber),
                    (shut_out, (3, one, other), NoNumber), (shut_out, (3, 1, one), NoMachine),
                    (pattern_at, (one, other, other), NoNumber), (pattern_number, (one, other), NoNumber),
                    (pattern_number, (3, one), NoPattern), (chain_at, (one, other, other, other), NoNumber),
                    (chain_at, (3, one, other, other), NoPattern), (chain_at, (3, (TURN,), one, other), NoPattern),
                    (chain_at, (3, (TURN,), (TURN,), one), NoNumber), (mover, (one, other, other), NoNumber),
                    (known, (one, other), NoNumber), (known, (3, one), NoPattern),
                    (alike_for, (one, other, other, other), NoRow), (alike_for, (ROW, one, other, other), NoPattern),
                    (alike_for, (ROW, (TURN,), one, other), NoRow), (alike_for, (ROW, (TURN,), ROW, one), NoPattern),
                    (Folk, (one, other, other, other), NoNumber), (answers, (folk, one, other), NoRow),
                    (answers, (folk, ROW, one), NoPattern), (memories, (folk, one, other), NoRow),
                    (memories, (folk, ROW, one), NoPattern), (longest, (task, one), NoPlan),
                    (rounds_enough, (task, one), NoPlan), (told_folk, (task, one), NoPlan),
                    (trials, (task, one), NoNumber),
                    (view_of, (one, other, other), NoRow), (view_of, (ROW, one, other), NoPattern),
                    (view_of, (ROW, (TURN,), one), NoMachine), (table, (task, one), NoNumber),
                    (is_table, (task, one, other), NoNumber), (by_table, (one, {}), NoNumber),
                    (refusal, (task, one), NoNumber), (is_refusal, (task, one, other), NoNumber),
                    (fewest_rounds, (task, one), NoNumber), (span, (task, one), NoPlan),
                    (sure_plan, (task, one), NoLot), (is_sure_plan, (task, one, other), NoLot),
                    (sure_bar, (task, one), NoLot), (sure_folk, (task, one, other), NoLot),
                    (sure_folk, (task, (0,), one), NoPlan), (beside_plan, (task, task, one, other), NoPlan),
                    (beside_plan, (task, task, plan(task), one), NoPlan), (fewer, (task, one), NoSome),
                    (wider, (task, one), NoOffers), (mended, (task, one), NoOffers),
                    (family_agreement, (one, other), NoNumber), (family_agreement, (3, one), NoNumber),
                    (family_few, (one, other, other), NoNumber), (family_few, (3, one, other), NoNumber),
                    (family_few, (3, 7, one), NoNumber), (near, (one, other), NoNumber), (near, (3, one), NoNumber),
                    (family_leader, (one,), NoNumber), (unlike, (one, other), NoNumber), (unlike, (3, one), NoNumber),
                    (family_planned, (one, other, other, other), NoWord),
                    (family_planned, ("few", one, other, other), NoNumber),
                    (family_planned, ("few", 3, one, other), NoNumber),
                    (family_planned, ("few", 3, 3, one), NoNumber), (Net, (folk, one), NoRow),
                    (net.event, (one,), NoEvent), (net.event, (("fall", one),), NoEvent),
                    (led, (net, lambda copy: None, one), NoNumber), (led, (net, lambda copy: "x", one), NoNumber),
                    (is_true, (task, Net(folk, (7, 7, 7)), one), NoInputs), (pattern_text, (one,), NoPattern),
                    (read_pattern, (one, other), NoNumber), (bar_text, (task, one), NoBar),
                    (Desk().tell, (one,), NoLine),
                ):
                    self.fails(kind, function, *arguments)
                if one is not None:
                    self.fails(NoMachine, net.settled, one)
                if not isinstance(one, str):
                    self.fails(NoText, recovered, one)
                    self.assertEqual(self.fails(BadText, read_task, one).line, 0)
                    self.assertEqual(self.fails(BadText, read_pattern, 3, one).line, 0)
                    self.assertEqual(self.fails(BadText, read_bar, task, one).line, 0)
                if one is None or isinstance(one, (bool, str, list, dict, tuple)):
                    self.assertEqual(self.fails(NoFunction, Folk, 1, one, other, other).index, 1)


class OrderOfChecks(Case):
    def test_the_first_wrong_argument_is_told(self):
        task = apart([2, 1, 3])
        for one in (None, True, [], {}, "row", (0, 0), leader(), nested(30, lambda thing: [thing])):
            for other in (None, False, [], {}, "rest", leader(), nested(30, lambda thing: (thing,))):
                self.fails(NoRow, rest_of, one, other)
                self.fails(NoRest, put_in, one, other)
                self.fails(NoLot, way, one, other, other)
                self.fails(NoLot, way, one, ROW, other)
                self.fails(NoRow, way, LOT, one, other)
                self.fails(NoChoice, covers, task, one, other)
                self.assertEqual(self.fails(BadTask, Task, one, other).part, "many")
                self.assertEqual(self.fails(BadTask, Task, 3, ((ROW, one), other)).part, 0)

    def test_the_later_ones_are_looked_at_when_the_first_are_right(self):
        task = apart([2, 1, 3])
        for thing in (None, True, [], {}, "row", leader(), nested(30, lambda thing: {0: thing})):
            self.fails(NoMachine, rest_of, ROW, thing)
            self.fails(NoNumber, put_in, (0, (0, 0)), thing)
            self.fails(NoRow, way, LOT, ROW, thing)
            self.fails(NoRest, covers, task, (0, 0, 0), thing)
            self.fails(NoRest, completing, task, thing)
            self.fails(NoInputs, lot_of, task, thing)


class Depths(Case):
    def test_deep_things_are_judged(self):
        task = apart([2, 1, 3])
        for thing in (deep_bar(100), deep_bar(800), nested(30, lambda thing: ({0: [thing]},))):
            for inner in (thing, (thing,), ((0, 0, 0), thing), (thing, thing, thing), (0, thing), (0, (0, thing))):
                self.assertIs(is_choice(task, inner), False)
                net = Net(silent_folk(), ROW)
                self.assertIs(net.is_event(inner), False)
                self.fails(NoEvent, net.event, inner)
                self.fails(NoMachine, net.settled, inner)
                self.assertIs(is_true(leader(), net, inner), False)
                self.assertIs(is_sparing((0,), inner), False)
                self.fails(NoSome, fewer, task, inner)
                self.fails(NoOffers, wider, task, inner)
                self.fails(NoPattern, pattern_text, inner)
                self.fails(NoBar, bar_text, task, inner)
                self.fails(NoLine, Desk().tell, inner)
                self.fails(NoText, recovered, inner)
                self.assertIs(is_plan(task, inner), False)
                self.assertIs(is_plan(task, ((0, 0, 0), {rest: inner for rest in rests(task)})), False)
                self.fails(NoLot, parts, inner)
                self.fails(NoLot, way, inner, inner, inner)
                self.fails(NoRow, way, LOT, inner, inner)
                self.fails(NoRow, rest_of, inner, inner)
                self.fails(NoMachine, rest_of, ROW, inner)
                self.fails(NoRest, put_in, inner, inner)
                self.fails(NoNumber, put_in, (0, (0, 0)), inner)
                self.fails(NoRest, completing, task, inner)
                self.fails(NoInputs, lot_of, task, inner)
                self.fails(NoChoice, covers, task, inner, inner)
                self.fails(NoRest, covers, task, (0, 0, 0), inner)
                self.assertEqual(self.fails(BadTask, Task, inner, inner).part, "many")
                self.assertIn(self.fails(BadTask, Task, 3, inner).part, ("lots", 0))
                self.assertIs(task == inner, False)

    def test_no_recursion_over_what_is_long(self):
        lot = tuple((k, k, k) for k in range(5000))
        self.assertEqual(len(parts(lot)), 5000)
        self.assertIsNone(way(lot, lot[0], lot[-1]))
        comb = tuple(sorted((k // 2 + k % 2, k // 2, 0) for k in range(5000)))
        self.assertEqual(len(way(comb, comb[0], comb[-1])), 5000)
        chain = {(k // 2 + k % 2, k // 2, 0): [(n, n, n) for n in range(2)] for k in range(2000)}
        found = plan(wide(3, chain))
        self.assertEqual(len(set(found[0])), 1)
        chain[(0, 0, 0)] = [(0, 0, 0)]
        chain[(1000, 999, 0)] = [(1, 1, 1)]
        self.assertIsNone(plan(wide(3, chain)))
