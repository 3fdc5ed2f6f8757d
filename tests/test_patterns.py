"""Points 11 and 13: patterns and their numbers."""

from random import Random

from onesilent.errors import NoMachine, NoNumber, NoPattern
from onesilent.patterns import count_patterns, is_pattern, pattern_at, pattern_number, plain, shut_out
from tests.cases import Case
from tests.plain import plain_patterns, random_pattern
from tests.samples import leader, nested, oddities, silent_folk

BIG = 10 ** 109 + 7
NO_MANY = [None, True, 2, 6, 0, -3, BIG, "3", (3,), [3], {3: 3}, leader(), silent_folk()]
NO_ROUNDS = [None, False, True, -1, 31, BIG, "1", (), [], {}, leader(), nested(30, lambda thing: (thing,))]
NO_MACHINES = [None, True, False, -1, 5, BIG, "0", (0,), [0], {}, leader()]
SIZES = [(3, 0), (3, 1), (3, 2), (4, 0), (4, 1), (5, 0), (5, 1)]


class Judged(Case):
    def test_right_ones(self):
        for many, rounds in ((3, 0), (3, 1), (4, 1)):
            for pattern in plain_patterns(many, rounds):
                self.assertIs(is_pattern(many, rounds, pattern), True)
        source = Random(111)
        for rounds in (0, 1, 2, 29, 30):
            for many in (3, 4, 5):
                self.assertIs(is_pattern(many, rounds, random_pattern(source, many, rounds)), True)

    def test_no_machine_misses_itself_or_one_that_is_not_there(self):
        for many in (3, 4, 5):
            for me in range(many):
                for missed in range(-2, many + 2):
                    turn = tuple(missed if by == me else None for by in range(many))
                    self.assertIs(is_pattern(many, 1, (turn,)), 0 <= missed < many and missed != me)

    def test_as_many_rounds(self):
        turn = (None, 0, None)
        for rounds in range(31):
            for length in range(35):
                self.assertIs(is_pattern(3, rounds, (turn,) * length), length == rounds)

    def test_as_many_machines(self):
        for many in (3, 4, 5):
            for length in range(7):
                self.assertIs(is_pattern(many, 1, ((None,) * length,)), length == many)

    def test_no_patterns(self):
        for many in (3, 4, 5):
            for rounds in (0, 1, 2, 30):
                for thing in oddities():
                    self.assertIs(is_pattern(many, rounds, thing), type(thing) is tuple and len(thing) == rounds == 0)
                    plain_turn = type(thing) is tuple and thing == (None,) * many
                    self.assertIs(is_pattern(many, rounds, (thing,) * rounds), rounds == 0 or plain_turn)

    def test_bent_in_one_place(self):
        turn = (1, None, 0)
        for thing in ([turn, turn], (turn, list(turn)), (turn, (True, None, 0)), (turn, (1, None, False)),
                      (turn, (1, None, "0")), (turn, (1, None, (0,))), (turn, (1, None, [])), (turn, (1, None, {})),
                      (turn, (1, None, 0, None)), (turn, (1, None)), (turn, None), (turn, 0), (turn, ()),
                      (turn, (1, 1, 0)), (turn, (3, None, 0)), (turn, (-1, None, 0)), {0: turn, 1: turn}, (turn, BIG),
                      (turn, (BIG, None, 0)), (turn, leader()), (turn, (leader(), None, 0))):
            self.assertIs(is_pattern(3, 2, thing), False)
        self.assertIs(is_pattern(3, 2, (turn, turn)), True)

    def test_numbers_are_named(self):
        for wrong in NO_MANY:
            for other in NO_ROUNDS + [1]:
                self.fails(NoNumber, is_pattern, wrong, other, ())
        for wrong in NO_ROUNDS:
            for thing in (None, (), ((None,) * 3,)):
                self.fails(NoNumber, is_pattern, 3, wrong, thing)


class Told(Case):
    def test_plain(self):
        self.assertEqual(plain(3, 0), ())
        self.assertEqual(plain(4, 2), ((None, None, None, None), (None, None, None, None)))
        for many in (3, 4, 5):
            for rounds in (0, 1, 30):
                self.assertEqual(plain(many, rounds), tuple((None,) * many for _ in range(rounds)))
                self.assertIs(is_pattern(many, rounds, plain(many, rounds)), True)

    def test_shut_out(self):
        self.assertEqual(shut_out(3, 0, 2), ())
        self.assertEqual(shut_out(3, 2, 0), ((None, 0, 0), (None, 0, 0)))
        self.assertEqual(shut_out(4, 1, 2), ((2, 2, None, 2),))
        self.assertEqual(shut_out(5, 30, 4), ((4, 4, 4, 4, None),) * 30)
        for many in (3, 4, 5):
            for i in range(many):
                for turn in shut_out(many, 3, i):
                    self.assertEqual(turn, tuple(None if by == i else i for by in range(many)))

    def test_count(self):
        self.assertEqual([count_patterns(3, rounds) for rounds in range(4)], [1, 27, 729, 19683])
        self.assertEqual([count_patterns(4, 1), count_patterns(5, 1), count_patterns(5, 2)], [256, 3125, 3125 ** 2])
        for many in (3, 4, 5):
            for rounds in range(31):
                self.assertEqual(count_patterns(many, rounds), many ** (many * rounds))

    def test_errors(self):
        for function, further in ((plain, ()), (count_patterns, ()), (shut_out, (0,)), (shut_out, (None,))):
            for wrong in NO_MANY:
                for other in (1, None, 31):
                    self.fails(NoNumber, function, wrong, other, *further)
            for wrong in NO_ROUNDS:
                self.fails(NoNumber, function, 3, wrong, *further)
        for many in (3, 4, 5):
            for wrong in NO_MACHINES + [many, many + 1, -many]:
                self.fails(NoMachine, shut_out, many, 0, wrong)
                self.fails(NoMachine, shut_out, many, 30, wrong)
        for thing in oddities():
            self.fails(NoNumber, plain, thing, 1)
            self.fails(NoNumber, plain, 3, thing)
            self.fails(NoMachine, shut_out, 3, 1, thing)


class Numbered(Case):
    def test_the_order(self):
        for many, rounds in SIZES:
            for number, pattern in enumerate(plain_patterns(many, rounds)):
                self.assertEqual(pattern_at(many, rounds, number), pattern)
                self.assertEqual(pattern_number(many, pattern), number)

    def test_figures(self):
        self.assertEqual(pattern_at(3, 1, 0), ((None, None, None),))
        self.assertEqual(pattern_at(3, 1, 1), ((None, None, 0),))
        self.assertEqual(pattern_at(3, 1, 2), ((None, None, 1),))
        self.assertEqual(pattern_at(3, 1, 9 + 6 + 2), ((1, 2, 1),))
        self.assertEqual(pattern_at(4, 1, 64 * 1 + 16 * 2 + 4 * 3 + 2), ((1, 2, 3, 1),))
        self.assertEqual(pattern_number(5, ((1, 0, 0, 0, 0), (4, 4, 4, 4, 3))), 781 * 3125 + 4 * 781)

    def test_first_and_last(self):
        for many in (3, 4, 5):
            for rounds in (0, 1, 2, 17, 30):
                count = count_patterns(many, rounds)
                self.assertEqual(pattern_at(many, rounds, 0), plain(many, rounds))
                last = tuple(many - 1 if me < many - 1 else many - 2 for me in range(many))
                self.assertEqual(pattern_at(many, rounds, count - 1), (last,) * rounds)
                self.assertEqual(pattern_number(many, (last,) * rounds), count - 1)
                for wrong in (count, count + 1, -1, -count):
                    self.fails(NoNumber, pattern_at, many, rounds, wrong)

    def test_there_and_back(self):
        source = Random(113)
        for _ in range(200):
            many, rounds = source.choice((3, 4, 5)), source.randint(0, 30)
            pattern = random_pattern(source, many, rounds)
            number = pattern_number(many, pattern)
            self.assertIs(type(number), int)
            self.assertEqual(pattern_at(many, rounds, number), pattern)
            number = source.randrange(count_patterns(many, rounds))
            self.assertEqual(pattern_number(many, pattern_at(many, rounds, number)), number)
            self.assertIs(is_pattern(many, rounds, pattern_at(many, rounds, number)), True)

    def test_no_rounds(self):
        self.assertEqual(pattern_at(5, 0, 0), ())
        self.assertEqual(pattern_number(5, ()), 0)
        self.fails(NoNumber, pattern_at, 5, 0, 1)

    def test_errors(self):
        for wrong in NO_MANY:
            self.fails(NoNumber, pattern_at, wrong, 1, 0)
            self.fails(NoNumber, pattern_at, wrong, None, None)
            self.fails(NoNumber, pattern_number, wrong, ())
            self.fails(NoNumber, pattern_number, wrong, None)
        for wrong in NO_ROUNDS:
            self.fails(NoNumber, pattern_at, 3, wrong, 0)
            self.fails(NoNumber, pattern_at, 3, wrong, None)
        for wrong in [thing for thing in oddities() if type(thing) is not int] + [-1, 27, BIG, True, False]:
            self.fails(NoNumber, pattern_at, 3, 1, wrong)
        turn = (None, None, None)
        for wrong in oddities() + [(turn,) * 31, ((None,) * 4,), (turn, (0, None, None)), [turn], (list(turn),),
                                   (turn, (None, True, None)), ((3, None, None),), (turn, None)]:
            if wrong != ():
                self.fails(NoPattern, pattern_number, 3, wrong)
        self.fails(NoPattern, pattern_number, 4, (turn,))
        self.fails(NoPattern, pattern_number, 3, [])
