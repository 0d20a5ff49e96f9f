"""Points 19 and 20, and spans of point 15: sums that rise, goods that hang together."""

import unittest
from itertools import combinations, permutations

from laytogether.crowds import is_deed
from laytogether.errors import NotTwo
from laytogether.sums import (
    bond, climb, goods_apart, greatest_rise, hang_together, least_bond, least_rise, left_to_rise, middle_good,
    most_bond, most_squares, rise, rise_by_goods, share, spans, squares,
)
from tests import plain
from tests.inputs import TOLD, WIDE

TABLES = plain.small_tables() + plain.three_by_two() + plain.more_tables() + [WIDE]


def plain_squares(table):
    total = 0
    for row in table:
        total += sum(row) * sum(row)
    return total


def plain_bond(table, one, other):
    total = 0
    for row in table:
        total += row[one] * row[other]
    return total


class Examples(unittest.TestCase):

    def test_examples(self):
        self.assertEqual((squares(TOLD), most_squares(TOLD), left_to_rise(TOLD)), (41, 59, 18))
        self.assertEqual((rise(TOLD, 0, 2), rise_by_goods(TOLD, 0, 2)), (18, 18))
        self.assertEqual((greatest_rise(TOLD), least_rise(TOLD), len(climb(TOLD))), ((18, (0, 2)), 4, 2))
        self.assertEqual((bond(TOLD, 0, 1), most_bond(TOLD, 0, 1), least_bond(TOLD, 0, 1)), (5, 14, 5))
        self.assertIs(hang_together(TOLD, 0, 1), False)
        self.assertEqual((goods_apart(TOLD), share(TOLD, 1), middle_good(TOLD)), ([(0, 1)], (1, 1), (1, 2)))
        self.assertEqual(spans(((3, 1), (4, 4))), (2, 0))


class PlainAnswers(unittest.TestCase):

    def each(self, check):
        for table in TABLES:
            with self.subTest(table=table):
                check(table)

    def test_squares(self):
        def check(table):
            most = plain_squares(plain.tower(table))
            self.assertEqual((squares(table), most_squares(table)), (plain_squares(table), most))
            self.assertEqual(left_to_rise(table), most - plain_squares(table))
        self.each(check)

    def test_rises(self):
        def check(table):
            for one, other in permutations(range(len(table)), 2):
                told = plain_squares(plain.lay(table, one, other)) - plain_squares(table)
                self.assertEqual((rise(table, one, other), rise_by_goods(table, one, other)), (told, told))
                self.assertEqual(told > 0, plain.odds(table[one], table[other]))
        self.each(check)

    def test_greatest_and_least_rise(self):
        def check(table):
            rises = {pair: rise(table, *pair) for pair in plain.odds_of(table)}
            if not rises:
                self.assertIsNone(greatest_rise(table))
                self.assertIsNone(least_rise(table))
                return
            most = max(rises.values())
            self.assertEqual(greatest_rise(table), (most, min(pair for pair in rises if rises[pair] == most)))
            self.assertEqual(least_rise(table), min(rises.values()))
        self.each(check)

    def test_climb(self):
        def check(table):
            found = climb(table)
            self.assertEqual((found[0], found[-1]), (plain.crowd(table), plain.tower(table)))
            for before, later in zip(found, found[1:]):
                self.assertTrue(is_deed(before, later))
                _, (one, other) = greatest_rise(before)
                self.assertEqual(later, plain.deed(before, one, other))
            self.assertEqual(climb(table[::-1]), found)
            self.assertIsNone(greatest_rise(found[-1]))
        self.each(check)

    def test_bonds(self):
        def check(table):
            alike = plain.tables_of(tuple(zip(*table))) if len(table) < 4 else None
            for one, other in permutations(range(len(table[0])), 2):
                self.assertEqual(bond(table, one, other), plain_bond(table, one, other))
                self.assertEqual(most_bond(table, one, other), plain_bond(plain.tower(table), one, other))
                if alike:
                    self.assertEqual(least_bond(table, one, other), min(plain_bond(told, one, other) for told in alike))
                    self.assertEqual(most_bond(table, one, other), max(plain_bond(told, one, other) for told in alike))
                else:
                    heaps = [row[one] for row in table]
                    ways = [zip(heaps, told) for told in permutations([row[other] for row in table])]
                    self.assertEqual(least_bond(table, one, other), min(sum(a * b for a, b in told) for told in ways))
        self.each(check)

    def test_goods_that_hang_together(self):
        def check(table):
            apart = []
            for one, other in combinations(range(len(table[0])), 2):
                found = False
                for mine, yours in permutations(table, 2):
                    found = found or mine[one] > yours[one] and mine[other] < yours[other]
                if found:
                    apart.append((one, other))
                self.assertIs(hang_together(table, one, other), not found)
                self.assertIs(hang_together(table, other, one), not found)
            self.assertEqual(goods_apart(table), apart)
        self.each(check)

    def test_places_of_heaps(self):
        def check(table):
            for person, row in enumerate(table):
                less = [[other[good] < row[good] for other in table].count(True) for good in range(len(row))]
                self.assertEqual(share(table, person), tuple(less))
            middle = []
            for column in zip(*table):
                left = list(column)
                # The outer heaps go two by two; of two that are left, the lesser one stays.
                while len(left) > 2:
                    left.remove(max(left))
                    left.remove(min(left))
                middle.append(min(left))
            self.assertEqual(middle_good(table), tuple(middle))
            told = tuple(zip(*table))
            self.assertEqual(spans(told), tuple(sorted(column)[-1] - sorted(column)[0] for column in told))
        self.each(check)


class Edges(unittest.TestCase):

    def test_one_person(self):
        table = ((0, 99),)
        self.assertEqual((squares(table), most_squares(table), left_to_rise(table)), (9801, 9801, 0))
        self.assertEqual((greatest_rise(table), least_rise(table), climb(table)), (None, None, [table]))
        self.assertEqual((bond(table, 0, 1), most_bond(table, 0, 1), least_bond(table, 0, 1)), (0, 0, 0))
        self.assertEqual((hang_together(table, 0, 1), goods_apart(table)), (True, []))
        self.assertEqual((share(table, 0), middle_good(table)), ((0, 0), (0, 99)))
        self.assertRaises(NotTwo, rise, table, 0, 0)
        self.assertRaises(NotTwo, rise_by_goods, table, 0, 0)

    def test_one_good(self):
        table = ((0,), (99,), (5,), (99,), (0,), (0,))
        self.assertEqual((goods_apart(table), middle_good(table)), ([], (0,)))
        self.assertEqual((share(table, 1), share(table, 2), share(table, 0)), ((4,), (3,), (0,)))
        self.assertEqual((rise(table, 0, 1), greatest_rise(table)), (0, None))
        for told in (bond, most_bond, least_bond, hang_together):
            self.assertRaises(NotTwo, told, table, 0, 0)

    def test_six_people_and_five_goods(self):
        table = tuple(tuple(99 if good == person else 0 for good in range(5)) for person in range(6))
        self.assertEqual((squares(table), most_squares(table)), (5 * 99 ** 2, 495 ** 2))
        self.assertEqual(greatest_rise(table), (2 * 99 ** 2, (0, 1)))
        self.assertEqual(least_rise(table), 2 * 99 ** 2)
        self.assertEqual((most_bond(table, 3, 1), least_bond(table, 3, 1), bond(table, 3, 1)), (99 ** 2, 0, 0))
        self.assertEqual(len(goods_apart(table)), 10)
        self.assertEqual((middle_good(table), share(table, 4)), ((0,) * 5, (0, 0, 0, 0, 5)))

    def test_of_equal_rises_the_least_pair(self):
        table = ((2, 0), (0, 2), (2, 0), (0, 2))
        self.assertEqual(greatest_rise(table), (8, (0, 1)))
        table = ((9, 9), (2, 1), (0, 3), (3, 0))
        self.assertEqual(greatest_rise(table), (18, (2, 3)))
        table = ((9, 9), (0, 3), (2, 1), (3, 0), (0, 3))
        self.assertEqual(greatest_rise(table), (18, (1, 3)))

    def test_goods_that_are_the_same_and_equal_rows(self):
        table = ((3, 3), (1, 1), (3, 3))
        self.assertIs(hang_together(table, 0, 1), True)
        self.assertEqual((bond(table, 0, 1), least_bond(table, 0, 1), most_bond(table, 1, 0)), (19, 15, 19))
        self.assertEqual((share(table, 0), middle_good(table)), ((1, 1), (3, 3)))
        self.assertEqual(goods_apart(((1, 0, 1), (0, 1, 0))), [(0, 1), (1, 2)])

    def test_spans(self):
        self.assertEqual(spans(((7,),)), (0,))
        self.assertEqual(spans(((0, 99, 5, 5, 0, 1),) * 5), (99,) * 5)
        self.assertEqual(spans(((0, 1, 2, 3, 4, 5), (5, 5, 5, 5, 5, 5))), (5, 0))


if __name__ == "__main__":
    unittest.main()
