"""Point 14: the chain, what machines know, and what they cannot tell apart."""

from itertools import product
from random import Random

from onesilent.chain import alike_for, chain_at, known, mover
from onesilent.errors import NoNumber, NoPattern, NoRow
from onesilent.folks import answers, memories
from onesilent.patterns import is_pattern, plain, shut_out
from tests.cases import Case
from tests.plain import gatherers, plain_alike, plain_chain, plain_known, plain_patterns, random_pattern
from tests.samples import leader, nested, oddities, silent_folk

BIG = 10 ** 109 + 7
TURN = (None, None, None)
NO_MANY = [None, True, 2, 6, 0, -3, BIG, "3", (3,), [3], {3: 3}, leader(), silent_folk()]
NO_PATTERNS = [None, True, 0, "", [], [TURN], (list(TURN),), ((None,) * 4,), ((0, None, None),), ((3, None, None),),
               ((None, False, None),), (TURN,) * 31, (TURN, None), {0: TURN}, leader(), silent_folk(), (TURN, ()),
               nested(30, lambda thing: (thing,)), nested(30, lambda thing: [thing]), ((None, None, -1),)]


class Chain(Case):
    def test_as_the_definition_tells(self):
        source = Random(141)
        for many, rounds in ((3, 0), (3, 1), (3, 2), (3, 3), (4, 0), (4, 1), (4, 2), (5, 1), (5, 2)):
            for _ in range(4):
                first, last = (random_pattern(source, many, rounds) for _ in range(2))
                told = plain_chain(many, first, last)
                self.assertEqual(len(told), (many + 1) ** rounds)
                for number, pattern in enumerate(told):
                    self.assertEqual(chain_at(many, first, last, number), pattern)

    def test_in_one_round(self):
        first, last = ((1, 2, 0),), ((2, None, 1),)
        self.assertEqual([chain_at(3, first, last, number) for number in range(4)], [
            ((1, 2, 0),), ((2, 2, 0),), ((2, None, 0),), ((2, None, 1),)])

    def test_in_two_rounds(self):
        first, last = ((None, None, None), (None, None, 1)), ((1, 0, 0), (2, 2, None))
        self.assertEqual([chain_at(3, first, last, number) for number in (0, 1, 2, 3, 4, 5, 7, 8, 11, 12, 14, 15)], [
            ((None, None, None), (None, None, 1)), ((None, None, None), (None, None, 1)),
            ((None, None, None), (None, 0, 1)), ((None, None, None), (None, 0, 0)),
            ((1, None, None), (None, 0, 0)), ((1, None, None), (1, 0, 0)), ((1, None, None), (1, None, 1)),
            ((1, 0, None), (1, None, 1)), ((1, 0, None), (2, 2, None)),
            ((1, 0, 0), (2, 2, None)), ((1, 0, 0), (2, 2, None)), ((1, 0, 0), (2, 2, None))])

    def test_first_and_last_of_long_chains(self):
        source = Random(142)
        for many in (3, 4, 5):
            for rounds in (0, 1, 2, 15, 29, 30):
                first, last = (random_pattern(source, many, rounds) for _ in range(2))
                count = (many + 1) ** rounds
                self.assertEqual(chain_at(many, first, last, 0), first)
                self.assertEqual(chain_at(many, first, last, count - 1), last)
                for wrong in (count, count + 1, -1, -count, 10 ** 109):
                    self.fails(NoNumber, chain_at, many, first, last, wrong)

    def test_fact_neighbours_are_unlike_in_the_mover_alone(self):
        source = Random(143)
        for _ in range(300):
            many, rounds = source.choice((3, 4, 5)), source.randint(1, 30)
            first, last = (random_pattern(source, many, rounds) for _ in range(2))
            number = source.choice((1, (many + 1) ** rounds - 1, source.randrange(1, (many + 1) ** rounds)))
            one, other = chain_at(many, first, last, number - 1), chain_at(many, first, last, number)
            self.assertIs(is_pattern(many, rounds, other), True)
            at, me = mover(many, rounds, number)
            for k, by in product(range(rounds), range(many)):
                if one[k][by] != other[k][by]:
                    self.assertEqual((k, by), (at, me))
            self.assertEqual(one[at + 1:], shut_out(many, rounds - at - 1, me))
            self.assertEqual(other[at + 1:], one[at + 1:])

    def test_fact_the_answers_are_alike_or_neighbours(self):
        source = Random(144)
        for many, rounds in ((3, 1), (3, 2), (3, 3), (4, 2), (5, 1)):
            folk = gatherers(rounds, lambda me, memory: sum(map(ord, repr(memory))))
            first, last = (random_pattern(source, many, rounds) for _ in range(2))
            inputs = tuple(range(many))
            told = [answers(folk, inputs, pattern) for pattern in plain_chain(many, first, last)]
            for number in range(1, len(told)):
                unlike = [me for me in range(many) if told[number - 1][me] != told[number][me]]
                self.assertIn(unlike, ([], [mover(many, rounds, number)[1]]))

    def test_no_rounds(self):
        self.assertEqual(chain_at(3, (), (), 0), ())
        self.fails(NoNumber, chain_at, 3, (), (), 1)

    def test_errors(self):
        for wrong in NO_MANY:
            for other in (None, (), (TURN,)):
                self.fails(NoNumber, chain_at, wrong, other, other, None)
        for wrong in NO_PATTERNS + [thing for thing in oddities() if thing != ()]:
            for other in (None, (TURN,)):
                self.fails(NoPattern, chain_at, 3, wrong, other, None)
                self.fails(NoPattern, chain_at, 3, wrong, other, 0)
            self.fails(NoPattern, chain_at, 3, (TURN,), wrong, 0)
            self.fails(NoPattern, chain_at, 3, (TURN,), wrong, None)
        for rounds, other in ((0, 1), (1, 0), (2, 1), (30, 29), (29, 30)):
            self.fails(NoPattern, chain_at, 3, (TURN,) * rounds, (TURN,) * other, 0)
        for wrong in [thing for thing in oddities() if type(thing) is not int] + [True, False, -1, 4, BIG]:
            self.fails(NoNumber, chain_at, 3, (TURN,), (TURN,), wrong)


class Movers(Case):
    def test_by_figures(self):
        self.assertEqual([mover(3, 1, number) for number in range(1, 4)], [(0, 0), (0, 1), (0, 2)])
        self.assertEqual([mover(3, 2, number) for number in range(1, 9)], [
            (1, 0), (1, 1), (1, 2), (0, 0), (1, 0), (1, 1), (1, 2), (0, 1)])
        for many in (3, 4, 5):
            self.assertEqual(mover(many, 30, 1), (29, 0))
            self.assertEqual(mover(many, 30, (many + 1) ** 29), (0, 0))
            self.assertEqual(mover(many, 30, many * (many + 1) ** 29), (0, many - 1))
            self.assertEqual(mover(many, 30, (many + 1) ** 30 - 1), (29, many - 1))
            self.assertEqual(mover(many, 30, 3 * (many + 1) ** 7), (22, 2))

    def test_errors(self):
        for wrong in NO_MANY:
            self.fails(NoNumber, mover, wrong, 1, 1)
            self.fails(NoNumber, mover, wrong, None, None)
        for wrong in [None, True, -1, 31, BIG, "1", (), [], {}, leader()]:
            self.fails(NoNumber, mover, 3, wrong, 1)
        for many, rounds in ((3, 1), (4, 2), (5, 30)):
            for wrong in (0, -1, (many + 1) ** rounds, (many + 1) ** rounds + 1, None, True, "1", [1], (1,), {}):
                self.fails(NoNumber, mover, many, rounds, wrong)
        for wrong in (0, 1, -1, BIG):
            self.fails(NoNumber, mover, 3, 0, wrong)
        for thing in [thing for thing in oddities() if type(thing) is not int]:
            self.fails(NoNumber, mover, 3, 2, thing)


class Known(Case):
    def test_few_rounds(self):
        for many in (3, 4, 5):
            self.assertEqual(known(many, ()), tuple((me,) for me in range(many)))
            self.assertEqual(known(many, plain(many, 1)), (tuple(range(many)),) * many)
        self.assertEqual(known(3, ((1, 2, 0),)), ((0, 2), (0, 1), (1, 2)))
        self.assertEqual(known(3, ((1, 2, 0), (1, 2, 0))), ((0, 1, 2),) * 3)
        self.assertEqual(known(3, ((None, 0, 0), (None, 0, 0))), ((0, 1, 2), (1, 2), (1, 2)))
        self.assertEqual(known(3, ((None, 0, 0), (None, 0, None))), ((0, 1, 2), (1, 2), (0, 1, 2)))

    def test_as_the_definition_tells(self):
        for pattern in plain_patterns(3, 2):
            self.assertEqual(known(3, pattern), tuple(tuple(sorted(plain_known(3, pattern, me))) for me in range(3)))
        source = Random(145)
        for _ in range(200):
            many, rounds = source.choice((3, 4, 5)), source.randint(0, 4)
            pattern = random_pattern(source, many, rounds)
            told = tuple(tuple(sorted(plain_known(many, pattern, me))) for me in range(many))
            self.assertEqual(known(many, pattern), told)

    def test_who_misses_anything_behind_two_rounds_misses_one_machine(self):
        for pattern in plain_patterns(3, 2):
            missed = {by for lot in known(3, pattern) for by in range(3) if by not in lot}
            self.assertLessEqual(len(missed), 1)

    def test_thirty_rounds(self):
        for many in (3, 4, 5):
            for i in range(many):
                rest = tuple(by for by in range(many) if by != i)
                told = tuple(tuple(range(many)) if me == i else rest for me in range(many))
                self.assertEqual(known(many, shut_out(many, 30, i)), told)

    def test_errors(self):
        for wrong in NO_MANY:
            for other in (None, (), (TURN,)):
                self.fails(NoNumber, known, wrong, other)
        for wrong in NO_PATTERNS + [thing for thing in oddities() if thing != ()]:
            self.fails(NoPattern, known, 3, wrong)
        self.fails(NoPattern, known, 4, (TURN,))


class Alike(Case):
    def test_few_rounds(self):
        self.assertEqual(alike_for((1, 2, 3), (), (1, 5, 3), ()), (True, False, True))
        one, other = ((None, 0, 0),), ((1, 0, 0),)
        self.assertEqual(alike_for((1, 2, 3), one, (1, 2, 3), one), (True, True, True))
        self.assertEqual(alike_for((1, 2, 3), one, (9, 2, 3), one), (False, True, True))
        self.assertEqual(alike_for((1, 2, 3), one, (1, 2, 3), other), (False, True, True))
        self.assertEqual(alike_for((1, 2, 3), one, (1, 2, 4), one), (False, False, False))

    def test_as_the_definition_tells(self):
        source = Random(146)
        for _ in range(300):
            many, rounds = source.choice((3, 4, 5)), source.randint(0, 4)
            inputs = tuple(source.randrange(-1, 2) for _ in range(many))
            other = tuple(value if source.random() < 0.8 else 7 for value in inputs)
            pattern = random_pattern(source, many, rounds)
            later = tuple(turn if source.random() < 0.6 else random_pattern(source, many, 1)[0] for turn in pattern)
            told = alike_for(inputs, pattern, other, later)
            self.assertEqual(told, tuple(plain_alike(inputs, pattern, other, later, me) for me in range(many)))
            self.assertEqual({type(flag) for flag in told}, {bool})
            # The folk that remembers all that it hears can tell apart whatever any folk can.
            folk = gatherers(rounds, lambda me, memory: 0)
            ends = memories(folk, inputs, pattern)[-1], memories(folk, other, later)[-1]
            self.assertEqual(told, tuple(one == two for one, two in zip(*ends)))

    def test_thirty_rounds(self):
        for many in (3, 4, 5):
            for i in range(many):
                inputs = tuple(range(many))
                other = tuple(99 if by == i else by for by in range(many))
                told = alike_for(inputs, shut_out(many, 30, i), other, shut_out(many, 30, i))
                self.assertEqual(told, tuple(by != i for by in range(many)))
                self.assertEqual(alike_for(inputs, plain(many, 30), other, plain(many, 30)), (False,) * many)

    def test_errors(self):
        row, pattern = (0, 0, 0), (TURN,)
        no_rows = oddities() + [(0, 0), (0,) * 6, [0, 0, 0], (0, 0, True), (0, 0, None), {0: 0}]
        for wrong in no_rows:
            self.fails(NoRow, alike_for, wrong, pattern, row, pattern)
            self.fails(NoRow, alike_for, wrong, None, None, None)
            self.fails(NoRow, alike_for, row, pattern, wrong, pattern)
            self.fails(NoRow, alike_for, row, pattern, wrong, None)
        for wrong in NO_PATTERNS:
            self.fails(NoPattern, alike_for, row, wrong, row, pattern)
            self.fails(NoPattern, alike_for, row, wrong, None, None)
            self.fails(NoPattern, alike_for, row, pattern, row, wrong)
        for other in ((0, 0), (0, 0, 0, 0), (0,) * 5):
            self.fails(NoRow, alike_for, row, pattern, other, pattern)
            self.fails(NoRow, alike_for, row, pattern, other, (((None,) * len(other)),))
        for later in ((), (TURN, TURN), ((None,) * 4,), (TURN,) * 30):
            self.fails(NoPattern, alike_for, row, pattern, row, later)
        self.fails(NoPattern, alike_for, (0,) * 4, pattern, (0,) * 4, pattern)
        self.assertEqual(alike_for(row, pattern, row, pattern), (True, True, True))
