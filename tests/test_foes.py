"""Point 17: how any machines are found out."""

from itertools import product
from random import Random

from onesilent.errors import HasPlan, NoNumber
from onesilent.folks import Folk, answers, wrong_run
from onesilent.foes import found_wrong, is_wrong, trials
from onesilent.patterns import is_pattern, plain, shut_out
from onesilent.plans import plan
from onesilent.tasks import inputs_of, lot_of
from tests.cases import Case
from tests.plain import gatherers, knowers, plain_patterns, random_pattern
from tests.samples import agreement, apart, chained, climb, climbing, few, leader, near, nested, oddities, random_task
from tests.samples import silent_folk, task_of, wide

BIG = 10 ** 109 + 7


def counted(folk):
    """The folk, and a list in which each call of its begin is noted."""
    calls = []

    def begin(me, value):
        calls.append((me, value))
        return folk.begin(me, value)
    return Folk(folk.rounds, begin, folk.step, folk.answer), calls


def mixed(*things):
    """A number that looks drawn, and is the same whenever the things are."""
    number = 7
    for sign in repr(things):
        number = (number * 31 + ord(sign)) % 10007
    return number


def walkers(rounds, low, high):
    """Machines that know which inputs, and go towards the middle of what they hear, from an end to the other one."""
    def begin(me, value):
        return (frozenset([(me, value)]), value * (high - low) + low)

    def step(me, at, heard):
        told = [memory for memory in heard if memory is not None]
        places = [place for _, place in told]
        return (frozenset().union(*[known for known, _ in told]), (min(places) + max(places)) // 2)
    return Folk(rounds, begin, step, lambda me, memory: memory[1])


def cautious(rounds, many):
    """Machines that tell the greatest input, but for that of one that they hear of, or know themselves, as silent."""
    def step(me, at, heard):
        told = [memory[0] for memory in heard if memory is not None]
        silent = [i for known in told for i in range(many) if i not in dict(known)]
        known = tuple(sorted({pair for each in told for pair in each}))
        return (known, silent[0] if at > 0 and silent else None)

    def answer(me, memory):
        return max(value for by, value in memory[0] if by != memory[1])
    return Folk(rounds, lambda me, value: (((me, value),), None), step, answer)


def strangers(rounds, many):
    """Folks of many kinds for tasks of numbers from 0 on."""
    yield Folk(rounds, lambda me, value: value, lambda me, at, heard: heard[me], lambda me, memory: memory)
    yield Folk(rounds, lambda me, value: value, lambda me, at, heard: min(each for each in heard if each is not None),
               lambda me, memory: memory)
    yield knowers(rounds, lambda me, known: min(known.values()))
    yield knowers(rounds, lambda me, known: sorted(known.values())[len(known) // 2])
    yield knowers(rounds, lambda me, known: min(known.values()) if len(known) == many else max(known.values()))
    yield knowers(rounds, lambda me, known: None)
    yield knowers(rounds, lambda me, known: 0)
    yield knowers(rounds, lambda me, known: 1)
    yield knowers(rounds, lambda me, known: True)
    yield knowers(rounds, lambda me, known: [0] if me == 1 else 0)
    yield knowers(rounds, lambda me, known: mixed(me, sorted(known.items())) % 2)
    yield walkers(rounds, 0, 2 ** rounds)
    yield walkers(rounds, 0, 1)


class Foe(Case):
    def check(self, task, folk):
        """The folk is found out, and no more runs are asked for than there are trials."""
        watched, calls = counted(folk)
        found = found_wrong(task, watched)
        self.assertLessEqual(len(calls), task.many * trials(task, folk.rounds))
        self.assertIs(type(found), tuple)
        inputs, pattern = found
        self.assertIs(is_pattern(task.many, folk.rounds, pattern), True)
        self.assertNotIn(answers(folk, inputs, pattern), lot_of(task, inputs))
        self.assertIs(is_wrong(task, folk, found), True)
        self.assertEqual(found_wrong(task, folk), found)
        return found

    def test_strangers_of_all_kinds_and_rounds(self):
        for task in (agreement(3, 2), agreement(4, 2), agreement(3, 3), few(3, 3, 1), agreement(5, 2)):
            for rounds in (0, 1, 2, 3, 5, 30):
                for folk in strangers(rounds, task.many):
                    self.check(task, folk)

    def test_those_that_are_right_by_nearly_all_patterns(self):
        # All who know all inputs agree, and so do all who know the others of one; one run in between is wrong.
        for many in (3, 4):
            task = agreement(many, 2)
            for rounds in (1, 2, 3, 4, 30):
                for folk in (knowers(rounds, lambda me, known: int(sum(known.values()) * 2 > many)),
                             knowers(rounds, lambda me, known: max(known.values())),
                             knowers(rounds, lambda me, known: known.get(0, min(known.values())))):
                    self.check(task, folk)

    def test_those_that_walk_a_long_way_in_many_rounds(self):
        rows = climb(3, 40)
        # Inputs of 0 let the least row alone, one of 1 more and more of the way; the greatest row is apart.
        far = (50, 50, 50)
        task = task_of(3, {(0, 0, 0): rows[:1], (0, 0, 1): rows + [far], (0, 1, 1): [far]})
        self.assertIsNone(plan(task))

        def told(me, memory):
            known = dict(memory[0])
            if len(known) == 3 and sum(known.values()) != 1:
                return rows[0][me] if sum(known.values()) == 0 else far[me]
            if known.get(1) == 1 or known.get(2) == 1 and 1 in known and 0 not in known:
                return far[me]
            return rows[min(40, memory[1] // 2 ** 20)][me]
        for rounds in (0, 1, 2, 6, 30):
            folk = walkers(rounds, 0, 2 ** 25)
            self.check(task, Folk(rounds, folk.begin, folk.step, told))

    def test_halving_is_needed(self):
        # By the plain pattern and by those that shut one out the answers are let, so that the chain has to be halved.
        for many, values in ((3, 2), (4, 2), (5, 2), (3, 3)):
            task = agreement(many, values)
            for rounds in (2, 3, 10, 30):
                folk = cautious(rounds, many)
                ends = [plain(many, rounds)] + [shut_out(many, rounds, i) for i in range(many)]
                for inputs, lot in task.lots:
                    for pattern in ends:
                        self.assertIn(answers(folk, inputs, pattern), lot)
                self.assertNotIn(self.check(task, folk)[1], ends)

    def test_drawn_tasks_and_strangers(self):
        source = Random(171)
        done = 0
        while done < 150:
            many = source.choice((3, 3, 4, 5))
            task = random_task(source, many, 7, 3 if many == 3 else 2, 4)
            if plan(task) is not None:
                continue
            done += 1
            rounds, salt = source.choice((0, 1, 2, 3, 8, 30)), source.randrange(10 ** 6)
            lots = dict(task.lots)

            def told(me, known):
                fits = [row for inputs in sorted(lots) if all(inputs[by] == known[by] for by in known)
                        for row in lots[inputs]]
                return fits[mixed(salt, len(known)) % len(fits)][me]
            self.check(task, knowers(rounds, told))

    def test_those_that_going_through_all_runs_finds_out_too(self):
        task = agreement(3, 2)
        for folk in strangers(2, 3):
            first = wrong_run(task, folk)
            self.assertIsNotNone(first)
            self.check(task, folk)

    def test_many_inputs(self):
        for task in (chained(60, 2), chained(60, 3), wide(3, dict(agreement(3, 3).lots))):
            for rounds in (0, 2, 30):
                for folk in list(strangers(rounds, 3))[:5]:
                    self.check(task, folk)

    def test_has_plan(self):
        for task in (leader(), agreement(3, 1), apart([2, 1, 3]), few(3, 3, 2), near(3, 3), climbing(3, 4)):
            for rounds in (0, 1, 30):
                watched, calls = counted(knowers(rounds, lambda me, known: None))
                if plan(task) is not None:
                    self.fails(HasPlan, found_wrong, task, watched)
                    self.assertEqual(calls, [])

    def test_errors_of_strangers_go_on(self):
        for error in (KeyError, ValueError, StopIteration, HasPlan, RecursionError):
            def raising(*asked):
                raise error()
            for folk in (Folk(1, raising, len, len), Folk(1, lambda me, value: 0, raising, len),
                         Folk(1, lambda me, value: 0, lambda me, at, heard: 0, raising)):
                for call in (lambda: found_wrong(agreement(3, 2), folk),
                             lambda: is_wrong(agreement(3, 2), folk, ((0, 0, 0), plain(3, 1)))):
                    with self.assertRaises(error):
                        call()


class Judged(Case):
    def test_all_pairs(self):
        source = Random(172)
        for _ in range(20):
            task = random_task(source, 3, 4, 2, 5)
            salt = source.randrange(1000)
            folk = gatherers(1, lambda me, memory: mixed(me, memory, salt) % 2)
            for inputs in product(range(3), repeat=3):
                for pattern in plain_patterns(3, 1):
                    right = inputs in inputs_of(task) and answers(folk, inputs, pattern) not in lot_of(task, inputs)
                    self.assertIs(is_wrong(task, folk, (inputs, pattern)), right)

    def test_of_tasks_with_a_plan(self):
        self.assertIs(is_wrong(leader(), silent_folk(), ((0, 0, 0), plain(3, 1))), True)
        self.assertIs(is_wrong(leader(), knowers(1, lambda me, known: int(me == 0)), ((0, 0, 0), plain(3, 1))), False)

    def test_no_pairs(self):
        task, folk = agreement(3, 2), silent_folk()
        inputs, pattern = (0, 0, 1), ((None, 2, 1),)
        self.assertIs(is_wrong(task, folk, (inputs, pattern)), True)
        for thing in oddities() + [
            [inputs, pattern], (inputs,), (inputs, pattern, None), (pattern, inputs), (list(inputs), pattern),
            (inputs, list(pattern)), (inputs, pattern * 2), (inputs, ()), ((0, 0, 2), pattern), ((0, 0, 0, 1), pattern),
            ((0, 0, True), pattern), ((False, 0, 1), pattern), (inputs, ((None, 2, True),)), (inputs, ((0, 2, 1),)),
            (inputs, ((None, 2, 3),)), (inputs, ([None, 2, 1],)), (inputs, ((None, 2, 1, None),)), (inputs, None),
            (None, pattern), (0, 0), {inputs: pattern}, ((0, 0, BIG), pattern), (inputs, pattern[0]), "ab",
            (inputs, ((None, 2, "1"),)), (nested(30, lambda thing: (thing,)), pattern),
        ]:
            self.assertIs(is_wrong(task, folk, thing), False)
        deep = ()
        for _ in range(20000):
            deep = (deep,)
        for thing in (deep, (deep, pattern), (inputs, deep), (inputs, (deep,)), ((0, 0, deep), pattern)):
            self.assertIs(is_wrong(task, folk, thing), False)

    def test_of_thirty_rounds(self):
        folk = gatherers(30, lambda me, memory: me)
        source = Random(173)
        pattern = random_pattern(source, 5, 30)
        self.assertIs(is_wrong(agreement(5, 2), folk, ((0, 0, 0, 0, 1), pattern)), True)
        self.assertIs(is_wrong(agreement(5, 2), folk, ((0, 0, 0, 0, 1), pattern[1:])), False)


class Trials(Case):
    def test_told(self):
        self.assertEqual([trials(leader(), rounds) for rounds in range(5)], [3, 5, 7, 9, 11])
        self.assertEqual([trials(agreement(5, 2), rounds) for rounds in range(4)], [65, 67, 70, 72])
        for task in (leader(), agreement(3, 2), agreement(4, 2), agreement(5, 2), chained(60, 2)):
            for rounds in range(31):
                bits = len(bin((task.many + 1) ** rounds)) - 2
                self.assertEqual(trials(task, rounds), 2 * len(task.lots) + bits)

    def test_no_number(self):
        for wrong in [thing for thing in oddities() if type(thing) is not int] + [True, False, -1, 31, BIG, -BIG]:
            self.fails(NoNumber, trials, leader(), wrong)
