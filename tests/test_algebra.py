"""Point 21: tasks put together."""

from itertools import product
from random import Random

from onesilent.algebra import behind, beside, beside_plan, fewer, folk_behind, wider
from onesilent.bars import bar, is_bar
from onesilent.errors import NoInputs, NoOffers, NoPlan, NoSome, OtherMany, TooMany
from onesilent.families import agreement, few, leader, near, unlike
from onesilent.folks import Folk, answers, memories, wrong_run
from onesilent.lots import parts
from onesilent.making import told_folk
from onesilent.patterns import plain
from onesilent.plans import choices, is_plan, plan
from onesilent.sure import silences
from onesilent.tasks import Task, completing, inputs_of, lot_of, put_in, rests
from tests.cases import Case
from tests.plain import gatherers, knowers, plain_memories, random_pattern, wrong_answers
from tests.samples import apart, climbing, nested, oddities, random_task, silent_folk, task_of, wide

ROW = (0, 0, 0)


def joined(row, other):
    """Two rows as one, place by place."""
    return tuple(10000 * one + two for one, two in zip(row, other))


def plain_beside(one, other):
    """Both tasks at once, as a dict."""
    return {joined(a, b): sorted(joined(x, y) for x in lot for y in rows)
            for a, lot in one.lots for b, rows in other.lots}


def drawn_pair(source):
    """Two small tasks of as many machines."""
    many = source.choice((3, 3, 4))
    return [random_task(source, many, 4, 2, 4) for _ in range(2)]


def sized(count, rows):
    """A task of so many inputs, each with so many rows let."""
    return wide(3, {(k // 100, k % 100, 0): [(0, n // 100, n % 100) for n in range(rows)] for k in range(count)})


class Beside(Case):
    def test_by_hand(self):
        one = task_of(3, {(0, 1, 2): [(5, 0, 0), (6, 0, 0)]})
        other = task_of(3, {(3, 0, 0): [(0, 0, 9999)], (3, 4, 0): [(1, 2, 3)]})
        task = beside(one, other)
        self.assertIs(type(task), Task)
        self.assertEqual((task.many, task.lots), (3, (
            ((3, 10000, 20000), ((50000, 0, 9999), (60000, 0, 9999))),
            ((3, 10004, 20000), ((50001, 2, 3), (60001, 2, 3))))))
        task = beside(other, one)
        self.assertEqual(inputs_of(task), [(30000, 1, 2), (30000, 40001, 2)])
        self.assertEqual(lot_of(task, (30000, 1, 2)), ((5, 0, 99990000), (6, 0, 99990000)))

    def test_as_the_document_tells(self):
        source = Random(211)
        for _ in range(60):
            one, other = drawn_pair(source)
            told = plain_beside(one, other)
            task = beside(one, other)
            self.assertEqual(task.lots, tuple((inputs, tuple(told[inputs])) for inputs in sorted(told)))
            self.assertEqual(task.many, one.many)
            self.assertEqual(task, beside(one, other))

    def test_inputs_are_sorted_anew(self):
        # By the one's inputs alone they would not ascend.
        one = task_of(3, {(0, 0, 1): [ROW], (0, 1, 0): [ROW]})
        other = task_of(3, {(0, 0, 0): [ROW], (1, 0, 0): [ROW]})
        self.assertEqual(inputs_of(beside(one, other)), [(0, 0, 10000), (0, 10000, 0), (1, 0, 10000), (1, 10000, 0)])

    def test_a_plan_exactly_if_both_have_one(self):
        source = Random(212)
        seen = set()
        for _ in range(80):
            one, other = drawn_pair(source)
            both = (plan(one) is not None, plan(other) is not None)
            seen.add(both)
            task = beside(one, other)
            found = plan(task)
            self.assertEqual(found is not None, all(both))
            if found is None:
                self.assertIs(is_bar(task, bar(task)), True)
        self.assertEqual(len(seen), 4)

    def test_families_side_by_side(self):
        for one, other, planned in ((leader(3), few(3, 2, 2), True), (leader(4), agreement(4, 2), False),
                                    (near(3, 2), near(3, 2), True), (agreement(3, 1), unlike(3, 4), True)):
            task = beside(one, other)
            self.assertEqual(plan(task) is not None, planned)
            self.assertEqual(silences(task), [] if planned else [tuple(range(task.many))])

    def test_other_many(self):
        for one, other in product((leader(3), leader(4), leader(5)), repeat=2):
            if one.many == other.many:
                self.assertEqual(len(beside(one, other).lots), 1)
            else:
                self.fails(OtherMany, beside, one, other)
                self.fails(OtherMany, beside_plan, one, other, None, None)

    def test_numbers_of_9999_and_10000(self):
        small = task_of(3, {ROW: [ROW]})
        for place in range(3):
            top = tuple(9999 if k == place else 0 for k in range(3))
            over = tuple(10000 if k == place else 0 for k in range(3))
            for fit in (task_of(3, {top: [ROW]}), task_of(3, {ROW: [ROW, top]})):
                self.assertEqual(beside(fit, fit).many, 3)
            for table in ({over: [ROW]}, {ROW: [ROW, over]}, {ROW: [ROW], (1, 1, 1): [over]}):
                wrong = wide(3, table)
                for pair in ((wrong, small), (small, wrong), (wrong, wrong)):
                    self.assertEqual(self.fails(TooMany, beside, *pair).most, 9999)
                    self.assertEqual(self.fails(TooMany, beside_plan, *pair, None, None).most, 9999)
        twice = beside(task_of(3, {(0, 0, 1): [ROW]}), small)
        self.assertEqual(self.fails(TooMany, beside, twice, small).most, 9999)
        self.assertEqual(beside(task_of(3, {ROW: [ROW]}), small), small)

    def test_400_inputs_and_rows(self):
        for one, other in ((20, 20), (1, 400), (400, 1), (100, 4)):
            self.assertEqual(len(beside(sized(one, 1), sized(other, 1)).lots), 400)
            task = beside(sized(1, one), sized(1, other))
            self.assertEqual(len(lot_of(task, ROW)), 400)
        for one, other in ((20, 21), (1, 401), (401, 1), (134, 3)):
            for pair in ((sized(one, 1), sized(other, 1)), (sized(1, one), sized(1, other))):
                self.assertEqual(self.fails(TooMany, beside, *pair).most, 400)
                self.assertEqual(self.fails(TooMany, beside_plan, *pair, None, None).most, 400)
        # The lots count one by one: just the longest of both may be together too long.
        one = task_of(3, {ROW: [ROW], (1, 0, 0): [(0, 0, n) for n in range(20)]})
        other = wide(3, {ROW: [(0, 0, n) for n in range(21)], (1, 0, 0): [ROW]})
        self.assertEqual(self.fails(TooMany, beside, one, other).most, 400)

    def test_which_error_is_told(self):
        over = wide(3, {(k, 10000, 0): [(0, 0, n) for n in range(401)] for k in range(401)})
        self.assertEqual(self.fails(TooMany, beside, over, over).most, 9999)
        self.assertEqual(self.fails(TooMany, beside_plan, over, over, None, None).most, 9999)
        self.fails(OtherMany, beside, over, leader(4))
        self.fails(OtherMany, beside_plan, leader(5), over, None, None)

    def test_a_task_for_every_function(self):
        task = beside(near(3, 2), few(3, 2, 2))
        self.assertEqual(len(task.lots), 64)
        for rest in rests(task)[::7]:
            for inputs in completing(task, rest):
                self.assertEqual(put_in(rest, inputs[rest[0]]), inputs)
        found = plan(task)
        self.assertIs(is_plan(task, found), True)
        task = beside(leader(3), leader(3))
        self.assertEqual(len(choices(task)), len(parts(lot_of(task, ROW))))
        folk = told_folk(task, plan(task))
        self.assertIsNone(wrong_run(task, folk) if folk.rounds < 3 else None)


class BesidePlan(Case):
    def check(self, one, other, first, later):
        """What is told is a plan for both at once, and goes by the plans that are handed in."""
        task = beside(one, other)
        found = beside_plan(one, other, first, later)
        self.assertIs(is_plan(task, found), True)
        for k, (inputs, lot) in enumerate(task.lots):
            part = parts(lot)[found[0][k]]
            for inside, source in ((0, one), (1, other)):
                side = tuple(divmod(value, 10000)[inside] for value in inputs)
                chosen = (first, later)[inside][0][inputs_of(source).index(side)]
                rows = {tuple(divmod(value, 10000)[inside] for value in row) for row in part}
                self.assertLessEqual(rows, set(parts(lot_of(source, side))[chosen]))
        self.assertEqual(found, beside_plan(one, other, first, later))

    def test_drawn_pairs(self):
        source = Random(213)
        count = 0
        while count < 50:
            one, other = drawn_pair(source)
            if plan(one) and plan(other):
                count += 1
                self.check(one, other, plan(one), plan(other))

    def test_families(self):
        for one, other in ((leader(3), few(3, 2, 2)), (near(3, 2), near(3, 2)), (climbing(3, 2), leader(3)),
                           (leader(3), unlike(3, 5)), (few(4, 2, 2), leader(4)), (apart([3, 2]), apart([2, 3, 1]))):
            if plan(one) and plan(other):
                self.check(one, other, plan(one), plan(other))

    def test_all_plans_of_a_small_task(self):
        task = leader(3)
        for number, other in product(range(3), repeat=2):
            one, two = [((each,), {(i, (0, 0)): tuple(1 if k == 2 - each else 0 for k in range(3) if k != i)
                                   for i in range(3)}) for each in (number, other)]
            self.check(task, task, one, two)

    def test_no_plan(self):
        one, other = leader(3), apart([2, 1, 3])
        first, later = plan(one), plan(other)
        rest = rests(other)[0]
        for wrong in oddities() + [None, (), later[1], list(later), (later[0], {}), ((0, 0, 9), later[1]),
                                   (later[0], {**later[1], rest: [0, 0]}), (later[0], {**later[1], rest: (8, 8)})]:
            self.fails(NoPlan, beside_plan, one, other, first, wrong)
            self.fails(NoPlan, beside_plan, other, one, wrong, first)
            self.fails(NoPlan, beside_plan, one, other, wrong, wrong)
        self.fails(NoPlan, beside_plan, one, other, later, first)
        self.fails(NoPlan, beside_plan, agreement(3, 2), leader(3), None, first)

    def test_what_is_done_later_to_a_plan(self):
        one = leader(3)
        first = plan(one)
        found = beside_plan(one, one, first, first)
        first[1].clear()
        self.assertIs(is_plan(beside(one, one), found), True)


class Behind(Case):
    def test_by_hand(self):
        one = task_of(3, {(5, 5, 5): [ROW, (0, 0, 1)], (6, 6, 6): [(0, 0, 1)]})
        other = task_of(3, {ROW: [(1, 1, 1), (7, 7, 7)], (0, 0, 1): [(1, 1, 1), (2, 0, 0)], (9, 9, 9): [(9, 9, 9)]})
        task = behind(one, other)
        self.assertIs(type(task), Task)
        self.assertEqual((task.many, task.lots), (3, (((5, 5, 5), ((1, 1, 1), (2, 0, 0), (7, 7, 7))),
                                                      ((6, 6, 6), ((1, 1, 1), (2, 0, 0))))))

    def test_as_the_document_tells(self):
        source = Random(214)
        for _ in range(60):
            many = source.choice((3, 4, 5))
            other = random_task(source, many, 8, 3, 6)
            rows = inputs_of(other)
            one = task_of(many, {inputs: source.sample(rows, source.randint(1, len(rows)))
                                 for inputs in inputs_of(random_task(source, many, 6, 2, 2))})
            task = behind(one, other)
            self.assertEqual(inputs_of(task), inputs_of(one))
            for inputs, lot in one.lots:
                self.assertEqual(lot_of(task, inputs), tuple(sorted({row for each in lot
                                                                     for row in lot_of(other, each)})))

    def test_errors(self):
        one = task_of(3, {ROW: [ROW, (0, 0, 1)]})
        self.fails(OtherMany, behind, leader(3), leader(4))
        self.fails(NoInputs, behind, one, task_of(3, {ROW: [ROW]}))
        self.fails(NoInputs, behind, one, task_of(3, {ROW: [ROW], (0, 1, 1): [ROW]}))
        half = {ROW: [(0, n // 60, n % 60) for n in range(200)]}
        for count, fits in ((200, True), (201, False)):
            other = wide(3, {**half, (0, 0, 1): [(1, n // 60, n % 60) for n in range(count)]})
            if fits:
                self.assertEqual(len(lot_of(behind(one, other), ROW)), 400)
            else:
                self.assertEqual(self.fails(TooMany, behind, one, other).most, 400)
        # An input that is missing is told ahead of too many rows, and rows that both let count once.
        many = wide(3, {ROW: [(0, n // 60, n % 60) for n in range(401)]})
        self.fails(NoInputs, behind, one, many)
        same = wide(3, {inputs: [(0, n // 60, n % 60) for n in range(400)] for inputs in (ROW, (0, 0, 1))})
        self.assertEqual(len(lot_of(behind(one, same), ROW)), 400)

    def test_a_task_for_every_function(self):
        one = near(3, 3)
        other = few(3, 3, 2)
        task = behind(one, other)
        self.assertIs(is_plan(task, plan(task)), True)


class FolkBehind(Case):
    def test_if_folks_solve_both_it_solves_the_task_behind(self):
        source = Random(215)
        count = 0
        while count < 25:
            other = random_task(source, 3, 9, 2, 5)
            rows = inputs_of(other)
            one = task_of(3, {inputs: source.sample(rows, source.randint(1, len(rows)))
                              for inputs in inputs_of(random_task(source, 3, 3, 2, 2))})
            if plan(one) is None or plan(other) is None:
                continue
            count += 1
            task = behind(one, other)
            self.assertIsNotNone(plan(task))
            folk = folk_behind(told_folk(one, plan(one)), told_folk(other, plan(other)))
            for inputs, lot in task.lots:
                self.assertEqual(wrong_answers(folk, inputs, lot), [])

    def test_the_families_behind_one_another(self):
        one, other = near(3, 2), few(3, 2, 2)
        folk = folk_behind(told_folk(one, plan(one)), told_folk(other, plan(other)))
        self.assertEqual(folk.rounds, told_folk(one, plan(one)).rounds + told_folk(other, plan(other)).rounds)
        for inputs, lot in behind(one, other).lots:
            self.assertEqual(wrong_answers(folk, inputs, lot), [])

    def test_runs_are_those_of_both(self):
        source = Random(216)
        for rounds, later_rounds in ((0, 0), (0, 2), (2, 0), (1, 1), (3, 2), (0, 30), (30, 0), (15, 15)):
            for many in (3, 4, 5):
                first = knowers(rounds, lambda me, known: max(known.values()) + me)
                later = knowers(later_rounds, lambda me, known: sum(known.values()) * 10 + me)
                folk = folk_behind(first, later)
                self.assertIs(type(folk), Folk)
                self.assertEqual(folk.rounds, rounds + later_rounds)
                for _ in range(10):
                    inputs = tuple(source.randrange(9) for _ in range(many))
                    pattern = random_pattern(source, many, rounds + later_rounds)
                    told = answers(folk, inputs, pattern)
                    between = answers(first, inputs, pattern[:rounds])
                    self.assertEqual(told, answers(later, between, pattern[rounds:]))
                    # The memories are the first folk's, and those of the later one from its begin on.
                    rows = memories(folk, inputs, pattern)
                    self.assertEqual(rows[:rounds], memories(first, inputs, pattern[:rounds])[:rounds])
                    self.assertEqual(rows[rounds:], memories(later, between, pattern[rounds:]))

    def test_rounds_are_counted_from_0_for_each(self):
        first = Folk(2, lambda me, value: [], lambda me, at, heard: heard[me] + [at], lambda me, memory: sum(memory))
        later = Folk(3, lambda me, value: [value], lambda me, at, heard: heard[me] + [at], lambda me, memory:
                     int("".join(str(each) for each in memory)))
        self.assertEqual(answers(folk_behind(first, later), ROW, plain(3, 5)), (1012, 1012, 1012))

    def test_a_first_answer_of_none_goes_on_with_0(self):
        begun = []

        def begin(me, value):
            begun.append((me, value))
            return value
        later = Folk(1, begin, lambda me, at, heard: heard[me], lambda me, memory: memory)
        for said in (None, True, False, "7", (7,), [7], {7: 7}):
            for first in (silent_folk(), Folk(0, lambda me, value: said, lambda me, at, heard: None,
                                              lambda me, memory: memory)):
                del begun[:]
                folk = folk_behind(first, later)
                self.assertEqual(answers(folk, (4, 5, 6), plain(3, folk.rounds)), (0, 0, 0))
                self.assertEqual(begun, [(0, 0), (1, 0), (2, 0)])
                self.assertEqual({type(value) for _, value in begun}, {int})
        first = Folk(0, lambda me, value: value, lambda me, at, heard: None,
                     lambda me, memory: memory if me == 1 else None)
        self.assertEqual(answers(folk_behind(first, later), (4, 5, 6), plain(3, 1)), (0, 5, 0))

    def test_rounds_of_30_and_31(self):
        folks = [gatherers(rounds, lambda me, memory: 0) for rounds in range(31)]
        for one, other in product(range(31), repeat=2):
            if one + other > 30:
                self.assertEqual(self.fails(TooMany, folk_behind, folks[one], folks[other]).most, 30)
            else:
                self.assertEqual(folk_behind(folks[one], folks[other]).rounds, one + other)

    def test_what_strangers_raise_goes_on(self):
        def fall(*_):
            raise KeyError("stranger")
        good = gatherers(1, lambda me, memory: 0)
        for place in range(3):
            functions = [lambda me, value: value, lambda me, at, heard: heard[me], lambda me, memory: memory]
            functions[place] = fall
            bad = Folk(1, *functions)
            for pair in ((bad, good), (good, bad)):
                folk = folk_behind(*pair)
                with self.assertRaises(KeyError):
                    answers(folk, ROW, plain(3, 2))

    def test_as_strangers_are_asked(self):
        # The runs told again by the functions of both themselves.
        first = knowers(2, lambda me, known: min(known.values()))
        later = knowers(1, lambda me, known: max(known.values()))
        folk = folk_behind(first, later)
        source = Random(217)
        for _ in range(20):
            pattern = random_pattern(source, 4, 3)
            inputs = tuple(source.randrange(5) for _ in range(4))
            rows = plain_memories(first, first.begin, first.step, inputs, pattern[:2])
            between = tuple(first.answer(me, rows[-1][me]) for me in range(4))
            rows = plain_memories(later, later.begin, later.step, between, pattern[2:])
            self.assertEqual(answers(folk, inputs, pattern), tuple(later.answer(me, rows[-1][me]) for me in range(4)))


class Fewer(Case):
    def test_just_these_inputs(self):
        source = Random(218)
        for _ in range(50):
            task = random_task(source, source.choice((3, 4, 5)), 8, 2, 4)
            kept = tuple(sorted(source.sample(inputs_of(task), source.randint(1, len(task.lots)))))
            told = fewer(task, kept)
            self.assertIs(type(told), Task)
            self.assertEqual((told.many, told.lots),
                             (task.many, tuple((inputs, lot_of(task, inputs)) for inputs in kept)))
        self.assertEqual(fewer(task, tuple(inputs_of(task))), task)
        self.assertEqual(len(fewer(agreement(3, 7), tuple(inputs_of(agreement(3, 7))[::2])).lots), 172)

    def test_no_some(self):
        task = apart([2, 1, 3])
        for thing in oddities() + [(), (ROW, ROW), ((1, 1, 1), ROW), (ROW, (3, 3, 3)), [ROW], [ROW, (1, 1, 1)], ROW,
                                   ((0, 0, False),), ((0, 0, 0, 0),), (list(ROW),), {ROW: 1}, (ROW, None), (None, ROW),
                                   ((True, 1, 1),), ((1, 1, 1), (2, 2, True)), ((1, 1),), (leader(3),)]:
            self.fails(NoSome, fewer, task, thing)


class Wider(Case):
    def test_more_rows(self):
        task = apart([2, 1])
        offers = ((ROW, (0, 0, 1)), (ROW, (9, 10 ** 110 - 1, 9)), ((1, 1, 1), ROW[:2] + (7,)))
        told = wider(task, offers)
        self.assertIs(type(told), Task)
        self.assertEqual((told.many, told.lots), (3, (
            (ROW, (ROW, (0, 0, 1), (1, 1, 1), (9, 10 ** 110 - 1, 9))), ((1, 1, 1), (ROW, (0, 0, 7))))))
        self.assertEqual(wider(task, ()), task)
        self.assertEqual(task, apart([2, 1]))

    def test_drawn_offers(self):
        source = Random(219)
        for _ in range(50):
            task = random_task(source, source.choice((3, 4, 5)), 5, 2, 3)
            pool = [(inputs, row) for inputs, lot in task.lots for row in product(range(2), repeat=task.many)
                    if row not in lot]
            offers = tuple(sorted(source.sample(pool, min(len(pool), source.randint(0, 12)))))
            told = wider(task, offers)
            self.assertEqual(inputs_of(told), inputs_of(task))
            for inputs, lot in task.lots:
                more = [row for each, row in offers if each == inputs]
                self.assertEqual(lot_of(told, inputs), tuple(sorted([*lot, *more])))

    def test_12_and_13_offers(self):
        task = apart([1])
        offers = tuple((ROW, (0, 0, n)) for n in range(1, 14))
        self.assertEqual(len(lot_of(wider(task, offers[:12]), ROW)), 13)
        self.fails(NoOffers, wider, task, offers)

    def test_no_offers(self):
        task = apart([2, 1])
        good = (ROW, (0, 0, 5))
        for thing in self.wrong_offers() + [(good, ((1, 1, 1), (0, 0, 5)), ((1, 1, 1), (0, 0, 5))), (good, good)]:
            self.fails(NoOffers, wider, task, thing)
        self.fails(NoOffers, wider, wider(task, (good,)), (good,))

    @staticmethod
    def wrong_offers():
        """What is no lot of offers for apart([2, 1])."""
        good = (ROW, (0, 0, 5))
        wrong = [thing for thing in oddities() if thing != ()]
        wrong += [[good], good, (list(good),), (good + (1,),), (good[:1],), ((ROW, [0, 0, 5]),), ((list(ROW), ROW),),
                  ((ROW, (0, 0, -1)),), ((ROW, (0, 0, True)),), ((ROW, (0, 0)),), ((ROW, (0, 0, 0, 5)),),
                  ((ROW, ROW),), ((ROW, (1, 1, 1)),), (((2, 2, 2), (0, 0, 5)),), (((0, 0, False), (0, 0, 5)),),
                  (((1, 1, 1), (0, 0, 5)), good), (good, None), (None, good), ((ROW, "005"),), ((ROW, None),),
                  {ROW: (0, 0, 5)}, ((ROW, leader(3)),), (({}, {}),), ((ROW, (0, 0, "5")),), ((ROW, (0, 0, None)),)]
        return wrong + [((ROW, thing),) for thing in oddities()] + [((thing, (0, 0, 5)),) for thing in oddities()]


class Depths(Case):
    def test_deep_things(self):
        task = apart([2, 1])
        for thing in (nested(30, lambda thing: (thing,)), nested(30, lambda thing: [thing]),
                      nested(30, lambda thing: {0: thing})):
            for inner in (thing, (thing,), (ROW, thing), ((ROW, thing),), (thing, thing)):
                self.fails(NoSome, fewer, task, inner)
                self.fails(NoOffers, wider, task, inner)
                self.fails(NoPlan, beside_plan, task, task, inner, inner)
