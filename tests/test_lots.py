"""Point 8: parts and ways."""

from itertools import permutations, product
from random import Random

from onesilent.errors import NoLot, NoRow
from onesilent.lots import parts, way
from tests.cases import Case
from tests.samples import oddities, plain_parts, plain_way

BIG = 10 ** 109 + 7
NO_LOTS = [
    [(0, 0, 0)], ([0, 0, 0],), (), ((0, 0, 0), (0, 0, 0)), ((0, 0, 1), (0, 0, 0)), ((0, 0),), ((0,) * 6,),
    ((0, 0, 0), (0, 0, 0, 1)), ((0, 0, 0, 0), (0, 0, 1)), ((0, 0, 0), (0, 0, True)), ((False, 0, 0),),
    ((0, 0, 0), (0, 0, 2), (0, 0, 1)), ((0, 0, 0), (0, 0, 1), (0, 0, 1)), ((0, 0, 0), None), ((0, 0, "0"),),
    {(0, 0, 0): True}, (0, 0, 0), "000", ((0, 0, 0), ((0, 0, 1),)), ((0, 0, 0), (0, 0, 1), [0, 0, 2]),
]


def random_lots(seed, count):
    source = Random(seed)
    for _ in range(count):
        many = source.choice((3, 4, 5))
        rows = list(product(range(source.choice((2, 3, 4)) if many == 3 else 2), repeat=many))
        shift = source.choice((0, -1, BIG))
        lot = source.sample(rows, source.randint(1, min(24, len(rows))))
        yield tuple(sorted(tuple(value + shift for value in row) for row in lot))


class Parts(Case):
    def test_of_one_row_and_of_many(self):
        self.assertEqual(parts(((0, 0, 0),)), [((0, 0, 0),)])
        self.assertEqual(parts(((0, 0, 0), (0, 0, 5), (0, 7, 5))), [((0, 0, 0), (0, 0, 5), (0, 7, 5))])
        whole = tuple(product(range(4), repeat=3))
        self.assertEqual(parts(whole), [whole])

    def test_rows_unlike_in_two_places_are_apart(self):
        self.assertEqual(parts(((0, 0, 0), (0, 1, 1))), [((0, 0, 0),), ((0, 1, 1),)])
        self.assertEqual(parts(((0, 0, 1), (0, 1, 0), (1, 0, 0))), [((0, 0, 1),), ((0, 1, 0),), ((1, 0, 0),)])
        self.assertEqual(parts(((0, 0, 1), (0, 1, 0), (0, 1, 1))), [((0, 0, 1), (0, 1, 0), (0, 1, 1))])

    def test_neighbours_may_be_far_apart_in_their_place(self):
        self.assertEqual(parts(((-BIG, 0, 0), (BIG, 0, 0))), [((-BIG, 0, 0), (BIG, 0, 0))])

    def test_the_parts_are_ascending_though_they_interlace(self):
        lot = ((0, 0, 0), (1, 1, 1), (2, 0, 0), (3, 1, 1))
        self.assertEqual(parts(lot), [((0, 0, 0), (2, 0, 0)), ((1, 1, 1), (3, 1, 1))])

    def test_sixty_parts(self):
        lot = tuple((k, k, k, k, k) for k in range(60))
        self.assertEqual(parts(lot), [(row,) for row in lot])

    def test_as_the_definition_tells(self):
        for lot in random_lots(8, 150):
            self.assertEqual(parts(lot), plain_parts(lot))

    def test_a_long_chain_of_many_rows(self):
        lot = tuple(sorted((k // 3 + (k % 3 > 0), k // 3 + (k % 3 > 1), k // 3) for k in range(9000)))
        self.assertEqual(parts(lot), [lot])
        self.assertEqual(way(lot, lot[0], lot[-1]), lot)
        self.assertEqual(way(lot, lot[-1], lot[0]), lot[::-1])

    def test_no_lot(self):
        for thing in oddities() + NO_LOTS:
            self.fails(NoLot, parts, thing)


class Ways(Case):
    def test_to_itself(self):
        self.assertEqual(way(((0, 0, 0), (0, 0, 1)), (0, 0, 1), (0, 0, 1)), ((0, 0, 1),))
        self.assertEqual(way(((5, 5, 5),), (5, 5, 5), (5, 5, 5)), ((5, 5, 5),))

    def test_to_a_neighbour(self):
        self.assertEqual(way(((0, 0, 0), (0, 0, 9)), (0, 0, 9), (0, 0, 0)), ((0, 0, 9), (0, 0, 0)))

    def test_no_way(self):
        lot = ((0, 0, 0), (0, 1, 1), (0, 1, 2))
        self.assertIsNone(way(lot, (0, 0, 0), (0, 1, 1)))
        self.assertIsNone(way(lot, (0, 1, 2), (0, 0, 0)))

    def test_the_least_of_the_shortest(self):
        square = tuple(product(range(2), repeat=3))
        self.assertEqual(way(square, (0, 0, 0), (1, 1, 1)), ((0, 0, 0), (0, 0, 1), (0, 1, 1), (1, 1, 1)))
        self.assertEqual(way(square, (1, 1, 1), (0, 0, 0)), ((1, 1, 1), (0, 1, 1), (0, 0, 1), (0, 0, 0)))
        self.assertEqual(way(square, (0, 1, 1), (1, 1, 0)), ((0, 1, 1), (0, 1, 0), (1, 1, 0)))

    def test_a_short_way_goes_ahead_of_a_lesser_one(self):
        lot = ((0, 0, 0), (0, 0, 1), (0, 1, 1), (1, 0, 0), (1, 1, 0), (1, 1, 1))
        self.assertEqual(way(lot, (1, 0, 0), (1, 1, 1)), ((1, 0, 0), (1, 1, 0), (1, 1, 1)))
        self.assertEqual(way(lot, (0, 0, 0), (1, 1, 1)), ((0, 0, 0), (0, 0, 1), (0, 1, 1), (1, 1, 1)))

    def test_as_the_definition_tells(self):
        source = Random(9)
        for lot in random_lots(10, 150):
            for _ in range(4):
                one, other = source.choice(lot), source.choice(lot)
                self.assertEqual(way(lot, one, other), plain_way(lot, one, other))

    def test_ways_are_there_within_parts_alone(self):
        lot = tuple(sorted(permutations(range(4), 3)))
        found = parts(lot)
        for one, other in product(lot, repeat=2):
            together = any(one in part and other in part for part in found)
            self.assertEqual(way(lot, one, other) is not None, together)

    def test_no_lot(self):
        for thing in oddities() + NO_LOTS:
            self.fails(NoLot, way, thing, (0, 0, 0), (0, 0, 0))
            self.fails(NoLot, way, thing, None, [])

    def test_no_row(self):
        lot = ((0, 0, 0), (0, 0, 1), (0, 1, 1))
        for thing in oddities() + [(0, 1, 0), (0, 0, 0, 0), (0, 0, False), (0, 0, True), [0, 0, 0], (0, 0), (0, 0, 2)]:
            self.fails(NoRow, way, lot, thing, (0, 0, 0))
            self.fails(NoRow, way, lot, (0, 0, 0), thing)
            self.fails(NoRow, way, lot, thing, thing)
