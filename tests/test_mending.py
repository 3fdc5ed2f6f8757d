"""Point 22: what bars a task, cut down; and what mends it."""

from itertools import combinations, product
from random import Random

from onesilent.algebra import beside, fewer, wider
from onesilent.errors import NoOffers, TooMany
from onesilent.families import agreement, leader, unlike
from onesilent.mending import greatest, kernel, mended
from onesilent.plans import plan
from onesilent.tasks import inputs_of
from tests.cases import Case
from tests.samples import apart, chained, climbing, random_task, task_of, wide
from tests.test_algebra import Wider

ROW = (0, 0, 0)


def lots_of(things):
    """All lots of some things, fewest first, then the least."""
    return [lot for count in range(len(things) + 1) for lot in combinations(things, count)]


def plain_kernel(task):
    """The least lot of fewest inputs without a plan, by trying all."""
    for lot in lots_of(inputs_of(task)):
        if lot and plan(fewer(task, lot)) is None:
            return lot
    return None


def plain_greatest(task):
    """The lots of inputs with a plan, and none with any one more, by trying all."""
    planned = [lot for lot in lots_of(inputs_of(task)) if lot and plan(fewer(task, lot)) is not None]
    kept = {lot: True for lot in planned}
    return sorted(lot for lot in planned if not any(
        tuple(sorted((*lot, more))) in kept for more in inputs_of(task) if more not in lot))


def plain_mended(task, offers):
    """The least lot of fewest offers with a plan, by trying all."""
    for lot in lots_of(offers):
        if plan(wider(task, lot)) is not None:
            return lot
    return None


def drawn_tasks(seed, count, most_inputs):
    """Tasks of few rows, most of them without a plan."""
    source = Random(seed)
    for _ in range(count):
        many = source.choice((3, 3, 3, 4, 5))
        yield random_task(source, many, most_inputs, 2, 3)


class Kernel(Case):
    def test_by_trying_all(self):
        sizes = set()
        for task in drawn_tasks(221, 120, 6):
            found = kernel(task)
            self.assertEqual(found, plain_kernel(task))
            sizes.add(None if found is None else len(found))
            if found is not None:
                self.assertIs(type(found), tuple)
                self.assertIsNone(plan(fewer(task, found)))
                for lot in combinations(found, len(found) - 1):
                    self.assertIsNotNone(plan(fewer(task, lot)))
        self.assertLessEqual({None, 2, 3}, sizes)

    def test_agreement(self):
        for many in (3, 4, 5):
            task = agreement(many, 2)
            way = [(0,) * (many - k) + (1,) * k for k in range(many + 1)]
            task = fewer(task, tuple(sorted({*way, *inputs_of(task)[:9]}))[:9]) if many > 3 else task
            self.assertEqual(kernel(task), plain_kernel(task))
        self.assertEqual(kernel(agreement(3, 2)), ((0, 0, 0), (0, 0, 1), (0, 1, 1), (1, 1, 1)))

    def test_a_chain_of_ten_is_needed_whole(self):
        task = chained(10, 3)
        self.assertEqual(kernel(task), tuple(inputs_of(task)))
        self.assertEqual(len(greatest(task)), 10)

    def test_the_least_of_those_of_fewest(self):
        # Two kernels of two inputs each, and one of three that is less than both.
        lots = {(0, 0, 0): [(0, 0, 0)], (0, 0, 1): [(0, 0, 0), (1, 1, 1)], (0, 1, 1): [(1, 1, 1)]}
        self.assertEqual(kernel(task_of(3, lots)), tuple(sorted(lots)))
        lots.update({(5, 5, 5): [ROW], (5, 5, 6): [(1, 1, 1)], (7, 7, 7): [ROW], (7, 7, 8): [(1, 1, 1)]})
        self.assertEqual(kernel(task_of(3, lots)), ((5, 5, 5), (5, 5, 6)))

    def test_none_with_a_plan(self):
        for task in (leader(3), unlike(4, 6), agreement(5, 1), apart([2] * 10), task_of(3, {ROW: [ROW]})):
            self.assertIsNone(kernel(task))

    def test_ten_and_eleven_inputs(self):
        for counts in ([1] * 10, [3] * 10):
            self.assertIsNone(kernel(apart(counts)))
            self.assertEqual(greatest(apart(counts)), [tuple(inputs_of(apart(counts)))])
        for task in (apart([1] * 11), agreement(4, 2), agreement(3, 7), chained(11, 2), apart([2] * 60),
                     beside(agreement(3, 2), agreement(3, 2))):
            self.assertEqual(self.fails(TooMany, kernel, task).most, 10)
            self.assertEqual(self.fails(TooMany, greatest, task).most, 10)

    def test_tasks_beyond_the_constructor(self):
        rows = [(n, n % 7, n % 3) for n in range(400)]
        task = wide(3, {(10 ** 8 + k // 2, k - k // 2, 0): rows[k * 30:k * 30 + 60] for k in range(10)})
        self.assertEqual(kernel(task), plain_kernel(task))
        task = beside(leader(3), climbing(3, 3))
        self.assertEqual(kernel(task), plain_kernel(task))


class Greatest(Case):
    def test_by_trying_all(self):
        counts = set()
        for task in drawn_tasks(222, 120, 6):
            found = greatest(task)
            self.assertEqual(found, plain_greatest(task))
            self.assertIs(type(found), list)
            counts.add(min(len(found), 4))
        self.assertEqual(counts, {1, 2, 3, 4})

    def test_all_inputs_with_a_plan(self):
        for task in (leader(5), agreement(3, 1), apart([2, 1, 3])):
            self.assertEqual(greatest(task), [tuple(inputs_of(task))])

    def test_agreement(self):
        self.assertEqual(greatest(agreement(3, 2)), plain_greatest(agreement(3, 2)))
        for task in drawn_tasks(223, 8, 10):
            self.assertEqual(greatest(task), plain_greatest(task))

    def test_ascending_whatever_their_length(self):
        # The inputs in the middle go with nothing else.
        lots = {(0, 0, 0): [ROW], (0, 0, 1): [(1, 1, 1)], (0, 0, 2): [ROW], (9, 9, 9): [ROW]}
        self.assertEqual(greatest(task_of(3, lots)), [((0, 0, 0), (0, 0, 2), (9, 9, 9)), ((0, 0, 1), (9, 9, 9))])

    def test_each_list_is_new(self):
        task = agreement(3, 2)
        found = greatest(task)
        found.clear()
        self.assertEqual(greatest(task), plain_greatest(task))


class Mended(Case):
    def test_by_trying_all(self):
        source = Random(224)
        sizes = {}
        for task in drawn_tasks(225, 120, 5):
            pool = [(inputs, row) for inputs, lot in task.lots for row in product(range(2), repeat=task.many)
                    if row not in lot]
            offers = tuple(sorted(source.sample(pool, min(len(pool), source.randint(0, 9)))))
            found = mended(task, offers)
            self.assertEqual(found, plain_mended(task, offers))
            sizes[None if found is None else len(found)] = True
        self.assertLessEqual({None, 0, 1, 2}, set(sizes))

    def test_agreement_with_rows_in_between(self):
        task = agreement(3, 2)
        bridges = [((0, 0, 1), (0, 0, 1)), ((0, 0, 1), (0, 1, 1)), ((0, 1, 1), (0, 0, 1)), ((0, 1, 1), (0, 1, 1)),
                   ((1, 0, 0), (0, 0, 1)), ((1, 0, 0), (0, 1, 1)), ((1, 1, 0), (0, 0, 1)), ((1, 1, 0), (0, 1, 1)),
                   ((0, 1, 0), (0, 0, 1)), ((0, 1, 0), (0, 1, 1)), ((1, 0, 1), (0, 0, 1)), ((1, 0, 1), (0, 1, 1))]
        offers = tuple(sorted(bridges))
        self.assertEqual(len(offers), 12)
        self.assertEqual(mended(task, offers), plain_mended(task, offers))
        for count in (2, 4, 8):
            self.assertEqual(mended(task, offers[:count]), plain_mended(task, offers[:count]))

    def test_nothing_to_mend(self):
        for task in (leader(3), apart([2, 1]), unlike(3, 3)):
            inputs = inputs_of(task)[0]
            for offers in ((), ((inputs, (7, 7, 7)),), tuple((inputs, (8, 8, n)) for n in range(12))):
                self.assertEqual(mended(task, offers), ())

    def test_nothing_that_mends(self):
        task = agreement(3, 2)
        self.assertIsNone(mended(task, ()))
        self.assertIsNone(mended(task, (((0, 0, 1), (5, 5, 5)), ((0, 1, 1), (5, 5, 5)))))
        self.assertIsNone(mended(agreement(5, 3), tuple(((0, 0, 1, 1, 2), (0, 0, 0, 0, n)) for n in range(1, 9))))

    def test_the_least_of_those_of_fewest(self):
        task = task_of(3, {ROW: [ROW], (0, 0, 1): [(1, 1, 1)]})
        offers = ((ROW, (0, 1, 1)), (ROW, (0, 2, 2)), (ROW, (1, 1, 0)), (ROW, (1, 1, 1)), ((0, 0, 1), (0, 0, 0)))
        self.assertEqual(mended(task, offers), ((ROW, (1, 1, 0)),))
        self.assertEqual(mended(task, offers[3:]), ((ROW, (1, 1, 1)),))
        self.assertEqual(mended(task, offers[4:]), (((0, 0, 1), (0, 0, 0)),))
        self.assertIsNone(mended(task, offers[:2]))

    def test_twelve_offers_that_are_all_needed(self):
        lots = {}
        offers = []
        for k in range(12):
            lots[(k, k, 0)] = [ROW]
            lots[(k, k, 1)] = [(1, 1, 1)]
            offers.append(((k, k, 0), (1, 1, 1)))
        task = task_of(3, lots)
        self.assertEqual(mended(task, tuple(offers)), tuple(offers))
        self.assertIsNone(mended(task, tuple(offers[1:])))

    def test_no_offers(self):
        task = apart([2, 1])
        thirteen = tuple((ROW, (0, 0, n)) for n in range(1, 14))
        for thing in Wider.wrong_offers() + [thirteen]:
            self.fails(NoOffers, mended, task, thing)
        self.assertEqual(mended(task, thirteen[:12]), ())
