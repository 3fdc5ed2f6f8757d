"""The search that plans, bars, tables and refusals rest on, against trying all answers one by one."""

from itertools import product
from random import Random
from unittest import TestCase

from onesilent.copies import renewed
from onesilent.riddles import Riddle, columns_of
from onesilent.solving import Fork, solve, solve_all
from onesilent.trees import Tree


def random_rules(source):
    """Numbers of values, and rules, drawn from a source."""
    counts = [source.choice((1, 2, 2, 3, 3)) for _ in range(source.randint(2, 7))]
    rules = []
    for _ in range(source.randint(1, 25)):
        scope = sorted(source.sample(range(len(counts)), min(source.choice((1, 2, 2, 2, 3)), len(counts))))
        every = list(product(*[range(counts[k]) for k in scope]))
        least = len(every) * 2 // 3 if source.random() < 0.97 else 0
        rules.append((scope, source.sample(every, source.randint(least, len(every)))))
    return counts, rules


def riddle_of(counts, rules):
    """The riddle of these rules."""
    return Riddle(counts, [(scope, columns_of(picks, len(scope))) for scope, picks in rules])


def fits(rules, told):
    """Whether answers fit all rules."""
    return all(tuple(told[k] for k in scope) in picks for scope, picks in rules)


class Riddles(TestCase):
    def check(self, counts, rules, tree, place, asked):
        """The node is a tree by what is asked ahead of it."""
        question, below = tree.nodes[place]
        if question is None:
            scope, picks = rules[below]
            self.assertTrue(all(k in asked for k in scope))
            self.assertNotIn(tuple(asked[k] for k in scope), picks)
        else:
            self.assertNotIn(question, asked)
            self.assertEqual(len(below), counts[question])
            for value, each in enumerate(below):
                self.check(counts, rules, tree, each, {**asked, question: value})

    def test_against_trying_all(self):
        source = Random(1)
        seen = {"answers": 0, "none": 0, "fork": 0}
        for _ in range(1500):
            counts, rules = random_rules(source)
            right = [told for told in product(*[range(count) for count in counts]) if fits(rules, told)]
            self.assertEqual(solve_all(riddle_of(counts, rules)), right)
            riddle = riddle_of(counts, rules)
            found, proof = solve(riddle)
            if right:
                self.assertIsNone(proof)
                self.assertIn(tuple(found), right)
                seen["answers"] += 1
            else:
                self.assertIsNone(found)
                tree = Tree(riddle, proof)
                self.check(counts, rules, tree, len(tree.nodes) - 1, {})
                seen["fork" if isinstance(proof, Fork) else "none"] += 1
        self.assertGreater(min(seen.values()), 10)

    def test_decisions_are_taken_back(self):
        source = Random(2)
        for _ in range(200):
            counts, rules = random_rules(source)
            riddle = riddle_of(counts, rules)
            if riddle.start() is None:
                kept = (repr(riddle.left), repr(riddle.gone), list(riddle.trail))
                for k, values in enumerate(list(riddle.left)):
                    for value in values:
                        riddle.decide(k, value)
                        riddle.undo()
                        self.assertEqual((repr(riddle.left), repr(riddle.gone), list(riddle.trail)), kept)

    def test_pigeons(self):
        # So many birds in one nest less: no value is barred ahead of decisions, so that forks stand upon forks.
        for count in (3, 4, 5, 6):
            pairs = [(one, other) for one in range(count) for other in range(one + 1, count)]
            apart = [pick for pick in product(range(count - 1), repeat=2) if pick[0] != pick[1]]
            rules = [(list(pair), apart) for pair in pairs]
            riddle = riddle_of([count - 1] * count, rules)
            found, proof = solve(riddle)
            self.assertIsNone(found)
            tree = Tree(riddle, proof)
            self.check([count - 1] * count, rules, tree, len(tree.nodes) - 1, {})


class Renewed(TestCase):
    def test_lists_and_dicts_are_new(self):
        inner = [1]
        thing = (inner, {"a": inner, 2: (inner, ())}, [inner, None], "text", len)
        found = renewed(thing, 1000)
        self.assertEqual(found, thing)
        self.assertIsNot(found[0], inner)
        self.assertIsNot(found[1]["a"], inner)
        self.assertIsNot(found[1][2][0], found[1]["a"])
        self.assertIs(found[4], len)

    def test_beyond_a_size_things_stay(self):
        thing = [[1], [2]]
        self.assertIs(renewed(thing, 4), thing)
        self.assertIsNot(renewed(thing, 5), thing)

    def test_other_kinds_stay(self):
        class Rows(list):
            """A list of another kind."""
        for thing in (Rows([1]), {1, 2}, 1.5, None, True, "a", range(3)):
            self.assertIs(renewed(thing, 1000), thing)
