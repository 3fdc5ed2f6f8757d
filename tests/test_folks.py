"""Point 12: folks, their memories and answers, and the first run that is wrong."""

from itertools import product
from random import Random

from onesilent.errors import NoFunction, NoNumber, NoPattern, NoRow, TooMany
from onesilent.folks import Folk, answers, memories, wrong_run
from onesilent.patterns import pattern_at, plain, shut_out
from tests.cases import Case
from tests.plain import gatherers, knowers, plain_memories, plain_patterns, plain_view, random_pattern
from tests.samples import agreement, few, leader, near, nested, oddities, silent_folk, task_of, wide

BIG = 10 ** 109 + 7
NO_FUNCTIONS = [None, True, False, 0, -1, BIG, "", "begin", (), (len,), [], [len], {}, {"begin": len}]


def mixed(*things):
    """A number that looks drawn, and is the same whenever the things are."""
    number = 7
    for sign in repr(things):
        number = (number * 31 + ord(sign)) % 10007
    return number


class Told:
    """What a stranger's functions were asked."""

    def __init__(self):
        self.calls = []

    def begin(self, *asked):
        self.calls.append(("begin", *asked))
        return ("first", *asked)

    def step(self, *asked):
        self.calls.append(("step", *asked))
        return ("later", asked[0], asked[1])

    def answer(self, *asked):
        self.calls.append(("answer", *asked))
        return 7 + asked[0]


class Made(Case):
    def test_rounds(self):
        for rounds in range(31):
            folk = Folk(rounds, len, len, len)
            self.assertEqual(folk.rounds, rounds)
            self.assertIs(type(folk.rounds), int)
        for wrong in [thing for thing in oddities() if type(thing) is not int] + [-1, 31, 32, BIG, True, False]:
            self.fails(NoNumber, Folk, wrong, len, len, len)
            self.fails(NoNumber, Folk, wrong, None, None, None)

    def test_the_first_that_is_no_function(self):
        for wrong in NO_FUNCTIONS:
            for other in (len, None, 0, [], (), {}, "", True):
                self.assertEqual(self.fails(NoFunction, Folk, 1, wrong, other, other).index, 1)
                self.assertEqual(self.fails(NoFunction, Folk, 1, len, wrong, other).index, 2)
            self.assertEqual(self.fails(NoFunction, Folk, 1, len, len, wrong).index, 3)

    def test_any_other_thing_is_taken(self):
        for thing in (len, Told, Told(), Told().begin, lambda me: me, leader(), silent_folk(), NoRow(), NoRow, 1.5,
                      b"x"):
            self.assertEqual(Folk(2, thing, thing, thing).rounds, 2)


class Runs(Case):
    def test_what_the_functions_are_asked(self):
        stranger = Told()
        folk = Folk(2, stranger.begin, stranger.step, stranger.answer)
        told = answers(folk, (5, -6, BIG), ((1, None, 0), (None, 2, 1)))
        self.assertEqual(told, (7, 8, 9))
        first = [("first", me, value) for me, value in enumerate((5, -6, BIG))]
        later = [("later", me, 0) for me in range(3)]
        last = [("later", me, 1) for me in range(3)]
        asked = [("begin", 0, 5), ("begin", 1, -6), ("begin", 2, BIG),
                 ("step", 0, 0, (first[0], None, first[2])), ("step", 1, 0, tuple(first)),
                 ("step", 2, 0, (None, first[1], first[2])),
                 ("step", 0, 1, tuple(later)), ("step", 1, 1, (later[0], later[1], None)),
                 ("step", 2, 1, (later[0], None, later[2])),
                 ("answer", 0, last[0]), ("answer", 1, last[1]), ("answer", 2, last[2])]
        self.assertEqual(sorted(stranger.calls, key=repr), sorted(asked, key=repr))
        self.assertTrue(all(type(call[3]) is tuple for call in stranger.calls if call[0] == "step"))
        self.assertEqual(memories(folk, (5, -6, BIG), ((1, None, 0), (None, 2, 1))),
                         [tuple(first), tuple(later), tuple(last)])

    def test_no_rounds(self):
        folk = Folk(0, lambda me, value: 10 * me + value, None.__class__, lambda me, memory: memory)
        self.assertEqual(answers(folk, (1, 2, 3, 4), ()), (1, 12, 23, 34))
        self.assertEqual(memories(folk, (1, 2, 3, 4), ()), [(1, 12, 23, 34)])

    def test_as_the_definition_tells(self):
        source = Random(121)
        for _ in range(150):
            many, rounds = source.choice((3, 4, 5)), source.randint(0, 5)
            salt = source.randrange(1000)

            def begin(me, value):
                return (salt * me + value) % 7 if salt % 3 else None

            def step(me, at, heard):
                return mixed(me, at, heard, salt) % 5 or None

            folk = Folk(rounds, begin, step, lambda me, memory: memory)
            inputs = tuple(source.randrange(-3, 10) for _ in range(many))
            pattern = random_pattern(source, many, rounds)
            told = plain_memories(folk, begin, step, inputs, pattern)
            self.assertEqual(memories(folk, inputs, pattern), told)
            self.assertEqual(answers(folk, inputs, pattern), told[-1])

    def test_views_are_gathered(self):
        source = Random(122)
        folk = gatherers(3, lambda me, memory: me)
        for _ in range(40):
            many = source.choice((3, 4, 5))
            inputs = tuple(source.randrange(5) for _ in range(many))
            pattern = random_pattern(source, many, 3)
            told = memories(folk, inputs, pattern)
            self.assertEqual(len(told), 4)
            for at, row in enumerate(told):
                self.assertEqual(row, tuple(plain_view(inputs, pattern[:at], me) for me in range(many)))

    def test_a_memory_may_be_none(self):
        folk = Folk(1, lambda me, value: None if me == 1 else value, lambda me, at, heard: heard,
                    lambda me, memory: None)
        self.assertEqual(memories(folk, (4, 5, 6), ((2, None, None),)), [
            (4, None, 6), ((4, None, None), (4, None, 6), (4, None, 6))])

    def test_anything_else_counts_as_none(self):
        for thing in oddities() + [1.0, b"1", len, 0, 7, -BIG]:
            folk = Folk(0, lambda me, value: None, len, lambda me, memory: thing)
            told = answers(folk, (0, 0, 0), ())
            self.assertEqual(told, (thing if type(thing) is int else None,) * 3)
            self.assertIn(type(told[0]), (int, type(None)))
        folk = Folk(0, lambda me, value: value, len, lambda me, memory: [0, True, 2][me])
        self.assertEqual(answers(folk, (0, 0, 0), ()), (0, None, 2))

    def test_the_results_are_new(self):
        kept = [[1], {"a": [2]}]
        folk = Folk(2, lambda me, value: kept, lambda me, at, heard: (heard[me], [me]), lambda me, memory: 0)
        first = memories(folk, (0, 0, 0), plain(3, 2))
        self.assertEqual(first[0], ([[1], {"a": [2]}],) * 3)
        self.assertEqual(first[2][1], (([[1], {"a": [2]}], [1]), [1]))
        first[0][0].append(3)
        first[1][0][0][1].clear()
        first[2][0][1].append(4)
        first.clear()
        self.assertEqual(kept, [[1], {"a": [2]}])
        self.assertEqual(memories(folk, (0, 0, 0), plain(3, 2))[2][1], (([[1], {"a": [2]}], [1]), [1]))

    def test_memories_that_grow_or_are_of_any_kind(self):
        folk = gatherers(30, lambda me, memory: 5)
        self.assertEqual(answers(folk, (1, 2, 3, 4, 5), plain(5, 30)), (5,) * 5)
        self.assertEqual(len(memories(folk, (1, 2, 3, 4, 5), plain(5, 30))), 31)
        deep = ()
        for _ in range(20000):
            deep = (deep,)
        ring = []
        ring.append(ring)
        for memory in (deep, [deep], ring, len, 1.5, {1, 2}, b"x", Told, leader(), {(1, 2): [3]}, range(3)):
            folk = Folk(1, lambda me, value: memory, lambda me, at, heard: memory, lambda me, memory: 1)
            told = memories(folk, (1, 2, 3), plain(3, 1))
            self.assertEqual([type(each) for row in told for each in row], [type(memory)] * 6)
            if memory not in (deep, [deep], ring):
                self.assertEqual(told, [(memory,) * 3] * 2)

    def test_errors_of_strangers_go_on(self):
        def failing(*asked):
            raise KeyError(asked)
        for error in (KeyError, ValueError, StopIteration, RecursionError, NoRow, NoPattern):
            def raising(*asked):
                raise error()
            for folk in (Folk(1, raising, len, len), Folk(1, lambda me, value: 0, raising, len),
                         Folk(1, lambda me, value: 0, lambda me, at, heard: 0, raising)):
                for call in (lambda: answers(folk, (0, 0, 0), plain(3, 1)), lambda: wrong_run(leader(), folk)):
                    with self.assertRaises(error):
                        call()
        with self.assertRaises(KeyError):
            memories(Folk(0, failing, failing, failing), (0, 0, 0), ())
        self.assertEqual(len(memories(Folk(0, lambda me, value: 0, failing, failing), (0, 0, 0), ())), 1)

    def test_no_row(self):
        folk = silent_folk()
        for wrong in oddities() + [(1, 2), (1,) * 6, [1, 2, 3], (1, 2, True), (1, None, 3)]:
            for pattern in (plain(3, 1), None, ()):
                self.fails(NoRow, answers, folk, wrong, pattern)
                self.fails(NoRow, memories, folk, wrong, pattern)

    def test_no_pattern(self):
        folk = silent_folk()
        turn = (None, None, None)
        for wrong in oddities() + [(), (turn, turn), ((None,) * 4,), ((0, None, None),), ((3, None, None),), [turn],
                                   (list(turn),), ((False, None, None),), (turn,) * 31]:
            self.fails(NoPattern, answers, folk, (0, 0, 0), wrong)
            self.fails(NoPattern, memories, folk, (0, 0, 0), wrong)
        self.fails(NoPattern, answers, folk, (0, 0, 0, 0), (turn,))
        self.assertEqual(answers(folk, (0, 0, 0), (turn,)), (None, None, None))


class WrongRuns(Case):
    def test_none_if_the_folk_solves_the_task(self):
        self.assertIsNone(wrong_run(leader(), Folk(0, lambda me, value: me, len, lambda me, memory: int(me == 0))))
        least = knowers(1, lambda me, known: min(known.values()))
        self.assertIsNone(wrong_run(few(3, 3, 2), least))
        self.assertIsNone(wrong_run(agreement(4, 1), gatherers(1, lambda me, memory: 0)))

    def test_the_first_inputs_and_the_first_pattern(self):
        source = Random(123)
        for _ in range(60):
            many, rounds = source.choice(((3, 0), (3, 1), (3, 1), (3, 2), (4, 1)))
            values, salt = source.choice((1, 2, 3)), source.randrange(1000)
            folk = gatherers(rounds, lambda me, memory: mixed(me, salt, memory) % values)
            rows = list(product(range(values), repeat=many))
            task = wide(many, {inputs: source.sample(rows, source.randint(max(1, len(rows) - 1), len(rows)))
                               for inputs in source.sample(list(product(range(2), repeat=many)), 3)})
            wrong = [(inputs, pattern) for inputs, lot in task.lots for pattern in plain_patterns(many, rounds)
                     if answers(folk, inputs, pattern) not in lot]
            self.assertEqual(wrong_run(task, folk), wrong[0] if wrong else None)

    def test_only_the_last_run_is_wrong(self):
        last = pattern_at(3, 2, 728)
        lone = gatherers(2, lambda me, memory: int((me, memory) == (0, plain_view((1, 1, 1), last, 0))))
        task = task_of(3, {(k, k, k): [(0, 0, 0)] for k in range(2)})
        found = wrong_run(task, lone)
        self.assertEqual(found[0], (1, 1, 1))
        wrong = [pattern for pattern in plain_patterns(3, 2) if answers(lone, (1, 1, 1), pattern) != (0, 0, 0)]
        self.assertEqual(found[1], wrong[0])

    def test_none_and_flags_are_not_let(self):
        for thing in (None, True, "1", [1], 1.0):
            folk = Folk(0, lambda me, value: 0, len, lambda me, memory: thing if me == 2 else 1)
            self.assertEqual(wrong_run(task_of(3, {(0, 0, 0): [(1, 1, 1)]}), folk), ((0, 0, 0), ()))

    def test_just_as_many_runs_and_above(self):
        def folk(rounds):
            return Folk(rounds, lambda me, value: 0, lambda me, at, heard: 0, lambda me, memory: 0)

        def task(many, count):
            return wide(many, {(k,) + (0,) * (many - 1): [(0,) * many] for k in range(count)})
        # 19683, 19683, 19968, 18750 and just 20000 runs; and those just above.
        for many, rounds, count in ((3, 3, 1), (3, 2, 27), (4, 1, 78), (5, 1, 6), (3, 0, 20000)):
            self.assertIsNone(wrong_run(task(many, count), folk(rounds)))
            self.assertEqual(self.fails(TooMany, wrong_run, task(many, count + 1), folk(rounds)).most, 20000)
        for many, rounds in ((3, 4), (4, 2), (5, 2), (3, 30), (5, 30)):
            self.assertEqual(self.fails(TooMany, wrong_run, task(many, 1), folk(rounds)).most, 20000)

    def test_too_many_calls_nothing(self):
        stranger = Told()
        self.fails(TooMany, wrong_run, leader(), Folk(4, stranger.begin, stranger.step, stranger.answer))
        self.assertEqual(stranger.calls, [])

    def test_the_result_is_a_pair(self):
        found = wrong_run(near(3, 2), silent_folk())
        self.assertEqual(found, ((0, 0, 0), ((None, None, None),)))
        self.assertIs(type(found), tuple)

    def test_shut_out_is_found(self):
        # Only who hears nobody but two tells something else.
        folk = knowers(1, lambda me, known: 1 if len(known) == 3 else 2)
        task = task_of(3, {(0, 0, 0): [(1, 1, 1), (1, 1, 2), (1, 2, 1), (2, 1, 1)]})
        found = wrong_run(task, folk)
        self.assertEqual(found, ((0, 0, 0), ((None, 0, 0),)))
        self.assertEqual(found[1], shut_out(3, 1, 0))
        self.assertEqual(answers(folk, *found), (1, 2, 2))
