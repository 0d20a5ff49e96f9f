"""Point 24: tables with two goods, told as orders."""

import unittest
from itertools import combinations, permutations, product

from laytogether.crowds import all_met, can_come, count_met, least_deeds, most_deeds, tower
from laytogether.errors import BadNumber, BadOrder, BadTable, NotLike
from laytogether.twos import (
    can_come_by_counts, count_below, count_orders_by_odds, count_orders_by_rings, from_order, least_by_rings,
    most_by_odds, next_orders, order, rings,
)
from tests import plain
from tests.inputs import KINDS, ODD, TOLD, WIDE

ON_ONE = (order, next_orders, rings, least_by_rings, most_by_odds, count_below)


def orders(most=6):
    """All orders of 1 to most numbers."""
    return [told for many in range(1, most + 1) for told in permutations(range(many))]


def crowd_with(told):
    """The crowd of an order, from its heaps: the greatest first heap has told[0] greater second heaps, and so on."""
    many = len(told)
    return tuple((many - 1 - place, many - 1 - told[place]) for place in range(many))


class Examples(unittest.TestCase):

    def test_examples(self):
        self.assertEqual(order(TOLD), (2, 1, 0))
        self.assertEqual(from_order((1, 0)), ((1, 0), (0, 1)))
        self.assertEqual(next_orders(TOLD), [(0, 1, 2), (1, 2, 0), (2, 0, 1)])
        self.assertEqual(rings(TOLD), [(0, 2), (1,)])
        self.assertEqual((least_by_rings(TOLD), most_by_odds(TOLD)), (1, 3))
        self.assertIs(can_come_by_counts(TOLD, ((3, 4), (1, 2), (0, 1))), True)
        self.assertEqual(count_below(TOLD), 6)
        self.assertEqual((count_orders_by_odds(3), count_orders_by_rings(3)), ((1, 2, 2, 1), (1, 3, 2)))


class PlainAnswers(unittest.TestCase):

    def test_orders(self):
        for told in orders():
            table = from_order(told)
            self.assertEqual(table, crowd_with(told))
            self.assertEqual(plain.crowd(table), table)
            self.assertEqual(order(table), told)
        for table in plain.three_by_two() + [((5, 90), (7, 3), (99, 0), (0, 4), (6, 2), (1, 99))]:
            by_first = sorted(table, reverse=True)
            told = tuple(len([other for other in table if other[1] > row[1]]) for row in by_first)
            self.assertEqual(order(table), told)
            self.assertEqual(order(table[::-1]), told)
            # Only which heaps are greater counts.
            self.assertEqual(order(from_order(told)), told)

    def test_next_orders(self):
        for told in orders(5):
            made = [order(later) for later in plain.deeds(from_order(told))]
            self.assertEqual(next_orders(from_order(told)), sorted(made))
        for told in list(permutations(range(6)))[::17]:
            made = [order(later) for later in plain.deeds(from_order(told))]
            self.assertEqual(next_orders(from_order(told)[::-1]), sorted(made))

    def test_rings(self):
        for told in orders():
            found = set()
            for place in range(len(told)):
                lot, now = {place}, told[place]
                while now not in lot:
                    lot.add(now)
                    now = told[now]
                found.add(tuple(sorted(lot)))
            self.assertEqual(rings(from_order(told)), sorted(found))
            self.assertEqual(sum(len(ring) for ring in rings(from_order(told))), len(told))

    def test_least_and_most_deeds(self):
        for told in orders(5) + list(permutations(range(6)))[::29]:
            table = from_order(told)
            self.assertEqual(least_by_rings(table), least_deeds(table, tower(table)))
            self.assertEqual(most_by_odds(table), most_deeds(table, tower(table)))
            self.assertEqual(most_by_odds(table), len(plain.odds_of(table)))
            self.assertEqual(count_below(table), count_met(table))

    def test_can_come(self):
        for many in range(1, 6):
            tables = [from_order(told) for told in permutations(range(many))]
            for one in tables[::7 if many == 5 else 1]:
                met = set(all_met(one))
                for other in tables:
                    self.assertIs(can_come_by_counts(one, other), other in met)
        tables = [from_order(told) for told in permutations(range(6))]
        for one, other in product(tables[1::97], tables[::7]):
            self.assertIs(can_come_by_counts(one[::-1], other[1:] + other[:1]), can_come(one, other))

    def test_counts_of_orders(self):
        for many in range(1, 7):
            found = list(permutations(range(many)))
            down = [sum(one > other for one, other in combinations(told, 2)) for told in found]
            self.assertEqual(count_orders_by_odds(many), plain.counted(down))
            least = [least_by_rings(crowd_with(told)) for told in found]
            self.assertEqual(count_orders_by_rings(many), plain.counted(least))
        self.assertEqual(count_orders_by_odds(4), (1, 3, 5, 6, 5, 3, 1))
        self.assertEqual(count_orders_by_rings(6), (1, 15, 85, 225, 274, 120))


class Edges(unittest.TestCase):

    def test_one_person(self):
        table = ((0, 99),)
        self.assertEqual([told(table) for told in ON_ONE], [(0,), [], [(0,)], 0, 0, 1])
        self.assertEqual((from_order((0,)), count_orders_by_odds(1), count_orders_by_rings(1)), (((0, 0),), (1,), (1,)))
        self.assertIs(can_come_by_counts(table, table), True)
        self.assertIs(can_come_by_counts(table, ((1, 99),)), False)

    def test_six_people(self):
        table = ((99, 0), (5, 1), (4, 2), (3, 3), (2, 4), (0, 99))
        self.assertEqual((order(table), rings(table)), ((5, 4, 3, 2, 1, 0), [(0, 5), (1, 4), (2, 3)]))
        self.assertEqual((least_by_rings(table), most_by_odds(table), count_below(table)), (3, 15, 720))
        self.assertEqual((len(next_orders(table)), next_orders(table)[0]), (15, (0, 4, 3, 2, 1, 5)))
        self.assertEqual((sum(count_orders_by_odds(6)), sum(count_orders_by_rings(6))), (720, 720))
        self.assertEqual(from_order((0, 1, 2, 3, 4, 5)), tuple((heap, heap) for heap in (5, 4, 3, 2, 1, 0)))

    def test_towers(self):
        table = ((1, 5), (0, 4), (2, 7))
        self.assertEqual([told(table) for told in ON_ONE], [(0, 1, 2), [], [(0,), (1,), (2,)], 0, 0, 1])

    def test_goods_with_like_heaps(self):
        wrong = [((1,), (0,)), ((1, 0, 0), (0, 1, 1)), ((1, 0), (1, 1)), ((0, 1), (1, 1)), ((7,),), WIDE]
        wrong += [((1, 2), (1, 2)), ((3, 1), (1, 2), (0, 4), (3, 7)), ((3, 1), (1, 2), (0, 4), (7, 1))]
        for table in wrong:
            for told in ON_ONE:
                self.assertRaises(NotLike, told, table)
            self.assertRaises(NotLike, can_come_by_counts, table, TOLD)
            self.assertRaises(NotLike, can_come_by_counts, TOLD, table)
            self.assertRaises(BadTable, can_come_by_counts, table, None)
        # Two goods may have the same heaps, each of them unlike ones.
        self.assertEqual(order(((1, 0), (0, 1))), (1, 0))

    def test_unlike_heaps(self):
        self.assertIs(can_come_by_counts(TOLD, ((3, 4), (1, 2), (0, 0))), False)
        self.assertIs(can_come_by_counts(TOLD, ((3, 4), (2, 2), (0, 1))), False)
        self.assertIs(can_come_by_counts(TOLD, ((3, 4), (0, 1))), False)

    def test_wrong_orders_and_numbers(self):
        for wrong in [row[0] for row in KINDS["told order"][1]] + ODD:
            self.assertRaises(BadOrder, from_order, wrong)
        for wrong in (0, 7, -1, None, True, "3", (3,)):
            self.assertRaises(BadNumber, count_orders_by_odds, wrong)
            self.assertRaises(BadNumber, count_orders_by_rings, wrong)


if __name__ == "__main__":
    unittest.main()
