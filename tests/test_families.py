"""Point 23: families of tasks."""

from itertools import product

from onesilent.algebra import beside, wider
from onesilent.bars import bar, is_bar
from onesilent.errors import NoNumber, NoWord, TooMany
from onesilent.families import agreement, family_planned, few, leader, near, unlike
from onesilent.plans import is_plan, plan
from onesilent.tasks import Task, completing, inputs_of, lot_of, rests
from tests.cases import Case
from tests.samples import nested, oddities

WORDS = ("agreement", "few", "near", "leader", "unlike")
MANY = (3, 4, 5)
HUGE = 10 ** 109


def fitting():
    """The numbers of machines and values with at most 400 inputs."""
    return [(many, values) for many in MANY for values in range(1, 8) if values ** many <= 400]


def numbers_wrong(least, most):
    """What is no integer within these bounds."""
    odd = [thing for thing in oddities() if not (type(thing) is int and least <= thing <= most)]
    return odd + [least - 1, most + 1, True, False, str(least), (least,), [least], None, HUGE]


class Tasks(Case):
    def check(self, task, many, lots):
        """The task has just these lots."""
        self.assertIs(type(task), Task)
        self.assertEqual(task.many, many)
        self.assertEqual(task.lots, tuple((inputs, tuple(sorted(lots[inputs]))) for inputs in sorted(lots)))

    def test_agreement(self):
        for many, values in fitting():
            rows = product(range(values), repeat=many)
            self.check(agreement(many, values), many, {row: [(each,) * many for each in set(row)] for row in rows})

    def test_few(self):
        for many, values in fitting():
            for most in range(1, many + 1):
                if values ** many > 100 and most > 2:
                    continue
                self.check(few(many, values, most), many, {
                    row: [told for told in product(sorted(set(row)), repeat=many) if len(set(told)) <= most]
                    for row in product(range(values), repeat=many)})
        self.assertEqual(len(lot_of(few(4, 4, 4), (0, 1, 2, 3))), 256)
        self.assertEqual(len(lot_of(few(5, 3, 5), (0, 1, 2, 0, 0))), 243)

    def test_near(self):
        for many, values in fitting():
            if values ** many > 250 and many > 3:
                continue
            self.check(near(many, values), many, {
                row: [told for told in product(range(min(row), max(row) + 1), repeat=many)
                      if max(told) - min(told) <= 1] for row in product(range(values), repeat=many)})

    def test_leader_and_unlike(self):
        for many in MANY:
            self.check(leader(many), many, {(0,) * many: [tuple(int(k == i) for k in range(many))
                                                          for i in range(many)]})
            for names in range(many, 7):
                if (many, names) == (5, 6):
                    continue
                self.check(unlike(many, names), many, {(0,) * many: [
                    row for row in product(range(names), repeat=many) if len(set(row)) == many]})

    def test_one_value(self):
        for many in MANY:
            row = (0,) * many
            for task in (agreement(many, 1), few(many, 1, 1), few(many, 1, many), near(many, 1)):
                self.assertEqual(task.lots, ((row, (row,)),))

    def test_the_most_that_is_let(self):
        self.assertEqual(len(inputs_of(agreement(3, 7))), 343)
        self.assertEqual(len(inputs_of(near(4, 4))), 256)
        self.assertEqual(len(lot_of(unlike(4, 6), (0, 0, 0, 0))), 360)
        self.assertEqual(len(lot_of(unlike(5, 5), (0, 0, 0, 0, 0))), 120)

    def test_too_many(self):
        for many in MANY:
            for values in range(1, 8):
                if values ** many > 400:
                    for function, more in ((agreement, ()), (near, ()), (few, (1,)), (few, (many,))):
                        self.assertEqual(self.fails(TooMany, function, many, values, *more).most, 400)
        self.assertEqual(self.fails(TooMany, unlike, 5, 6).most, 400)

    def test_no_number(self):
        for wrong in numbers_wrong(3, 5):
            for other in (1, 8, None, HUGE, wrong):
                for function in (agreement, near, unlike):
                    self.fails(NoNumber, function, wrong, other)
                self.fails(NoNumber, few, wrong, other, other)
            self.fails(NoNumber, leader, wrong)
        for many in MANY:
            for wrong in numbers_wrong(1, 7):
                self.fails(NoNumber, agreement, many, wrong)
                self.fails(NoNumber, near, many, wrong)
                self.fails(NoNumber, few, many, wrong, 1)
                self.fails(NoNumber, few, many, wrong, None)
            for wrong in numbers_wrong(1, many):
                # The number is looked at ahead of how many inputs there are.
                self.fails(NoNumber, few, many, 1, wrong)
                self.fails(NoNumber, few, many, 7, wrong)
            for wrong in numbers_wrong(many, 6):
                self.fails(NoNumber, unlike, many, wrong)

    def test_tasks_for_every_function(self):
        task = near(3, 7)
        for rest in rests(task)[::20]:
            self.assertEqual(len(completing(task, rest)), 7)
        self.assertIs(is_plan(task, plan(task)), True)
        self.assertIs(is_bar(agreement(3, 4), bar(agreement(3, 4))), True)
        self.assertEqual(len(lot_of(wider(leader(3), (((0, 0, 0), (5, 5, 5)),)), (0, 0, 0))), 4)
        self.assertEqual(len(beside(leader(5), leader(5)).lots), 1)


class Planned(Case):
    def test_as_the_search_tells(self):
        for many, values in fitting():
            self.assertIs(family_planned("agreement", many, values, 1), plan(agreement(many, values)) is not None)
            self.assertIs(family_planned("near", many, values, 1), plan(near(many, values)) is not None)
            for most in range(1, many + 1):
                if values ** many <= 130 or most < 3:
                    self.assertIs(family_planned("few", many, values, most), plan(few(many, values, most)) is not None)
        for many in MANY:
            self.assertIs(family_planned("leader", many, 1, 1), plan(leader(many)) is not None)
            for names in range(many, 7):
                if (many, names) != (5, 6):
                    self.assertIs(family_planned("unlike", many, names, 1), plan(unlike(many, names)) is not None)

    def test_numbers_of_any_size(self):
        for many in (3, 6, 100, HUGE):
            for number in (1, 2, 7, many - 1, many, many + 1, HUGE, 9 * HUGE):
                for most in (1, 2, 3, many, HUGE):
                    self.assertIs(family_planned("agreement", many, number, most), number == 1)
                    self.assertIs(family_planned("few", many, number, most), most >= 2 or number == 1)
                    self.assertIs(family_planned("near", many, number, most), True)
                    self.assertIs(family_planned("leader", many, number, most), True)
                    self.assertIs(family_planned("unlike", many, number, most), number >= many)

    def test_no_word(self):
        for word in [thing for thing in oddities() if thing not in WORDS] + [
            "Agreement", "agreement ", "", "few near", "lead", ("few",), ["near"], {"few": 1}, *map(list, WORDS),
        ]:
            self.fails(NoWord, family_planned, word, 3, 1, 1)
            self.fails(NoWord, family_planned, word, None, None, None)

    def test_no_number(self):
        odd = [thing for thing in oddities() if type(thing) is not int]
        for word in WORDS:
            for wrong in odd + [2, 1, 0, -3, -HUGE, True, "3", (3,)]:
                self.fails(NoNumber, family_planned, word, wrong, 1, 1)
                self.fails(NoNumber, family_planned, word, wrong, None, None)
            for wrong in odd + [0, -1, -HUGE, True, False, "1", (1,)]:
                self.fails(NoNumber, family_planned, word, 3, wrong, 1)
                self.fails(NoNumber, family_planned, word, 3, wrong, wrong)

    def test_most_is_looked_at_for_few_alone(self):
        for wrong in [thing for thing in oddities() if type(thing) is not int] + [0, -1, -HUGE, True, "1"]:
            self.fails(NoNumber, family_planned, "few", 3, 1, wrong)
            for word, planned in (("agreement", False), ("near", True), ("leader", True), ("unlike", False)):
                self.assertIs(family_planned(word, 3, 2, wrong), planned)

    def test_deep_things(self):
        for make in (lambda thing: (thing,), lambda thing: [thing], lambda thing: {0: thing}):
            thing = nested(30, make)
            self.fails(NoWord, family_planned, thing, thing, thing, thing)
            self.fails(NoNumber, family_planned, "few", thing, thing, thing)
            self.fails(NoNumber, agreement, thing, thing)
            self.fails(NoNumber, few, 3, 2, thing)
