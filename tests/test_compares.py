"""Points 25 and 26: two tables beside one another, and orders that cost least or agree."""

import unittest
from itertools import permutations, product

from laytogether.compares import (
    agreeing_orders, cheapest_order, count_agreeing, greater, is_crowd_of, lesser, moved, names_for, over_all_of,
    same_heaps, same_odds, to_order, unlike_people,
)
from laytogether.errors import BadTable, NotLike
from laytogether.lays import in_order
from tests import plain
from tests.inputs import ODD, TOLD, WIDE, WRONG_ORDERS

TABLES = plain.small_tables() + plain.three_by_two() + plain.more_tables()
SPREAD = tuple((99, 0, k, 5 - k, 7) for k in range(6))

ON_TWO = (same_heaps, unlike_people, same_odds, is_crowd_of, names_for, over_all_of, greater, lesser, moved)


def like_pairs():
    """Pairs of like tables, all of some shapes."""
    pairs = list(product(plain.all_tables(2, 2, 1), repeat=2)) + list(product(plain.all_tables(3, 1, 2), repeat=2))
    pairs += list(product(plain.all_tables(1, 2, 2), repeat=2)) + list(product(plain.three_by_two(), repeat=2))
    pairs += list(product(plain.all_tables(2, 3, 1)[::5], repeat=2))
    return pairs + [(WIDE, SPREAD), (SPREAD, WIDE), (WIDE, WIDE[::-1]), (SPREAD, SPREAD[3:] + SPREAD[:3])]


def plain_names(one, other):
    orders = permutations(range(len(one)))
    return min((names for names in orders if one == tuple(other[name] for name in names)), default=None)


def plain_cost(table, order):
    """Half of the differences to the table of the rows of the tower in an order."""
    cost = 0
    for person, row in zip(order, plain.tower(table)):
        for good, heap in enumerate(row):
            cost += max(heap, table[person][good]) - min(heap, table[person][good])
    assert cost in range(0, 10000, 2)
    return cost // 2


def plain_agreeing(table):
    found = []
    for order in permutations(range(len(table))):
        wrong = False
        for place, ahead in enumerate(order):
            for behind in order[place + 1:]:
                wrong = wrong or plain.strictly(table[behind], table[ahead])
        if not wrong:
            found.append(order)
    return sorted(found)


class Examples(unittest.TestCase):

    def test_examples(self):
        one, other = ((3, 1), (1, 2)), ((1, 2), (3, 0))
        self.assertEqual((same_heaps(one, other), unlike_people(one, other)), ((0,), (0, 1)))
        self.assertIs(same_odds(one, other), True)
        self.assertIs(is_crowd_of(one, one[::-1]), True)
        self.assertEqual(names_for(one, one[::-1]), (1, 0))
        self.assertIs(over_all_of(one, other), False)
        self.assertEqual((greater(one, other), lesser(one, other)), (((3, 2), (3, 2)), ((1, 1), (1, 0))))
        self.assertEqual(moved(one, other), 7)
        self.assertEqual((to_order(one, (0, 1)), cheapest_order(one)), (1, (1, (0, 1))))
        self.assertEqual((agreeing_orders(((1, 1), (2, 2))), count_agreeing(one)), ([(1, 0)], 2))


class PlainAnswers(unittest.TestCase):

    def test_two_tables(self):
        for one, other in like_pairs():
            with self.subTest(one=one, other=other):
                self.check_two(one, other)
                self.check_heaps(one, other)

    def check_two(self, one, other):
        columns, others = list(zip(*one)), list(zip(*other))
        same = [good for good in range(len(columns)) if sorted(columns[good]) == sorted(others[good])]
        self.assertEqual(same_heaps(one, other), tuple(same))
        unlike = [person for person in range(len(one)) if not one[person] == other[person]]
        self.assertEqual(unlike_people(one, other), tuple(unlike))
        self.assertIs(same_odds(one, other), plain.odds_of(one) == plain.odds_of(other))
        self.assertIs(is_crowd_of(one, other), plain.crowd(one) == plain.crowd(other))
        names = plain_names(one, other)
        self.assertEqual(names_for(one, other), names)
        self.assertIs(names is None, not is_crowd_of(one, other))

    def check_heaps(self, one, other):
        over = all(plain.over(one[person], other[person]) for person in range(len(one)))
        self.assertIs(over_all_of(one, other), over)
        most, least, sums = [], [], 0
        for person in range(len(one)):
            pairs = list(zip(one[person], other[person]))
            most.append(tuple(mine if mine > yours else yours for mine, yours in pairs))
            least.append(tuple(yours if mine > yours else mine for mine, yours in pairs))
            sums += sum(most[-1]) - sum(least[-1])
        self.assertEqual((greater(one, other), lesser(one, other)), (tuple(most), tuple(least)))
        self.assertEqual(moved(one, other), sums)

    def test_orders(self):
        for table in TABLES:
            with self.subTest(table=table):
                orders = list(permutations(range(len(table))))
                costs = [(plain_cost(table, order), order) for order in orders]
                self.assertEqual([(to_order(table, order), order) for order in orders], costs)
                self.assertEqual([moved(table, in_order(table, order)) for order in orders], [2 * c for c, _ in costs])
                self.assertEqual(cheapest_order(table), min(costs))
                self.assertEqual(agreeing_orders(table), plain_agreeing(table))
                self.assertEqual(count_agreeing(table), len(plain_agreeing(table)))

    def test_orders_of_five_and_six(self):
        for table in (WIDE, SPREAD, WIDE[:5], ((0,), (1,), (2,), (3,), (4,)), ((5, 5), (4, 6), (3, 3), (3, 3), (0, 9))):
            costs = [(plain_cost(table, order), order) for order in permutations(range(len(table)))]
            self.assertEqual(cheapest_order(table), min(costs))
            for cost, order in costs[::7]:
                self.assertEqual(to_order(table, order), cost)
            self.assertEqual(agreeing_orders(table), plain_agreeing(table))
            self.assertEqual(count_agreeing(table), len(plain_agreeing(table)))


class Edges(unittest.TestCase):

    def test_one_person(self):
        one, other = ((0, 99),), ((99, 0),)
        self.assertEqual([told(one, one) for told in ON_TWO], [(0, 1), (), True, True, (0,), True, one, one, 0])
        self.assertEqual([told(one, other) for told in ON_TWO],
                         [(), (0,), True, False, None, False, ((99, 99),), ((0, 0),), 198])
        self.assertEqual((to_order(one, (0,)), cheapest_order(one)), (0, (0, (0,))))
        self.assertEqual((agreeing_orders(one), count_agreeing(one)), ([(0,)], 1))

    def test_one_good(self):
        one, other = ((0,), (99,), (5,)), ((99,), (5,), (0,))
        self.assertEqual([told(one, other) for told in ON_TWO],
                         [(0,), (0, 1, 2), True, True, (2, 0, 1), False, ((99,), (99,), (5,)), ((0,), (5,), (0,)), 198])
        self.assertEqual((cheapest_order(one), agreeing_orders(one)), ((0, (1, 2, 0)), [(1, 2, 0)]))
        self.assertEqual(to_order(one, (0, 2, 1)), 99)

    def test_six_people_and_five_goods(self):
        least, most = ((0,) * 5,) * 6, ((99,) * 5,) * 6
        self.assertEqual((moved(least, most), moved(most, least)), (2970, 2970))
        self.assertIs(over_all_of(most, least), True)
        self.assertIs(over_all_of(least, most), False)
        self.assertEqual((greater(WIDE, least), lesser(WIDE, least), greater(WIDE, most)), (WIDE, least, most))
        self.assertEqual((count_agreeing(least), cheapest_order(least)), (720, (0, (0, 1, 2, 3, 4, 5))))
        self.assertEqual(names_for(WIDE, WIDE[::-1]), (5, 4, 3, 2, 1, 0))
        self.assertEqual(same_heaps(WIDE, WIDE[::-1]), (0, 1, 2, 3, 4))

    def test_equal_rows(self):
        one = ((4, 4), (9, 9), (4, 4), (4, 4))
        self.assertEqual(names_for(one, one), (0, 1, 2, 3))
        self.assertEqual(names_for(one, ((4, 4), (4, 4), (4, 4), (9, 9))), (0, 3, 1, 2))
        self.assertEqual(names_for(one, ((9, 9), (4, 4), (4, 4), (4, 4))), (1, 0, 2, 3))
        # Each person of other is told once.
        self.assertIsNone(names_for(one, ((4, 4), (9, 9), (4, 4), (9, 9))))
        self.assertIsNone(names_for(((1, 0), (1, 0)), ((1, 0), (0, 1))))
        self.assertEqual(names_for(((7,),) * 6, ((7,),) * 6), (0, 1, 2, 3, 4, 5))
        # Equal rows are over one another, but not strictly.
        self.assertEqual(agreeing_orders(((4, 4), (9, 9), (4, 4))), [(1, 0, 2), (1, 2, 0)])
        self.assertEqual(cheapest_order(((4, 4), (9, 9), (4, 4))), (0, (1, 0, 2)))

    def test_towers(self):
        table = ((5, 5), (3, 4), (3, 1))
        self.assertEqual((to_order(table, (0, 1, 2)), cheapest_order(table)), (0, (0, (0, 1, 2))))
        self.assertEqual(agreeing_orders(table[::-1]), [(2, 1, 0)])

    def test_the_same_heaps_in_any_order(self):
        self.assertEqual(same_heaps(((1, 2), (2, 2)), ((2, 1), (1, 1))), (0,))
        self.assertEqual(same_heaps(((1,), (1,), (2,)), ((1,), (2,), (2,))), ())

    def test_tables_that_are_not_like(self):
        for told in ON_TWO:
            for other in (TOLD[:2], ((3,), (1,), (0,)), ((3, 1, 0), (1, 2, 0), (0, 4, 0)), TOLD + TOLD[:1]):
                self.assertRaises(NotLike, told, TOLD, other)
                self.assertRaises(NotLike, told, other, TOLD)
            for wrong in (None, ((1, 2), (3,)), (), [], "x", ((1, 2), (1, 100))):
                self.assertRaises(BadTable, told, TOLD, wrong)
                self.assertRaises(BadTable, told, wrong, TOLD[:1])

    def test_values_that_are_no_order(self):
        for value in WRONG_ORDERS + ODD:
            self.assertIsNone(to_order(TOLD, value), value)
        for value in ((True, False), (0, True), (False, 1), [0, 1], (0,), (0, 1, 2), (1, 1), "01", {0: 0, 1: 1}):
            self.assertIsNone(to_order(((3, 1), (1, 2)), value), value)
        self.assertIs(type(to_order(TOLD, (0, 1, 2))), int)
        self.assertRaises(BadTable, to_order, None, None)


if __name__ == "__main__":
    unittest.main()
