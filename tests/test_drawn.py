"""Point 17: tables all heaps of which are drawn."""

import unittest
from fractions import Fraction
from itertools import product
from math import gcd, prod

from laytogether.drawn import (
    count_rows_at_odds, count_rows_over, count_rows_under, count_tower_tables, count_towers, mean_drawn_odds, over_all,
    tower_drawn, two_at_odds,
)
from laytogether.errors import BadNumber, BadRow
from tests import plain
from tests.cases import HowManyCase

SMALL = [
    (1, 1, 0), (1, 1, 3), (1, 2, 2), (2, 1, 0), (2, 1, 3), (2, 2, 0), (2, 2, 2), (3, 1, 2), (3, 2, 1), (2, 3, 1),
    (1, 5, 1), (3, 3, 1), (4, 2, 1), (6, 1, 1), (2, 5, 1), (4, 1, 3),
]


def rows_of(goods, most):
    return list(product(range(most + 1), repeat=goods))


def chance_by_signs(goods, most):
    """The chance of two rows at odds: of some good one has more, of another one less."""
    signs_of_pairs = [(one > other) - (one < other) for one, other in product(range(most + 1), repeat=2)]
    counts = {sign: signs_of_pairs.count(sign) for sign in (-1, 0, 1)}
    ways = sum(
        prod(counts[sign] for sign in signs)
        for signs in product((-1, 0, 1), repeat=goods) if 1 in signs and -1 in signs
    )
    return Fraction(ways, (most + 1) ** (2 * goods))


class Examples(unittest.TestCase):

    def test_examples(self):
        self.assertEqual((two_at_odds(2, 1), mean_drawn_odds(3, 2, 1), over_all(2, 1, 1)), ((1, 8), (3, 8), (3, 4)))
        self.assertEqual((count_towers(2, 2, 1), count_tower_tables(2, 2, 1)), (9, 14))
        self.assertEqual(tower_drawn(2, 2, 1), (7, 8))
        self.assertEqual((count_rows_over((1, 0), 2), count_rows_under((1, 0), 2)), (2, 6))
        self.assertEqual(count_rows_at_odds((1, 0), 2), 2)


class PlainAnswers(unittest.TestCase):

    def test_all_tables(self):
        for people, goods, most in SMALL:
            with self.subTest(people=people, goods=goods, most=most):
                self.check_drawn(people, goods, most)

    def check_drawn(self, people, goods, most):
        tables = plain.all_tables(people, goods, most)
        pairs = sum(len(plain.odds_of(table)) for table in tables)
        self.assertEqual(mean_drawn_odds(people, goods, most), plain.as_pair(Fraction(pairs, len(tables))))
        chance = plain.chance(tables, lambda table: all(plain.over(table[-1], row) for row in table))
        self.assertEqual(over_all(people, goods, most), chance)
        towers = [table for table in tables if not plain.odds_of(table)]
        self.assertEqual(count_tower_tables(people, goods, most), len(towers))
        self.assertEqual(tower_drawn(people, goods, most), plain.as_pair(Fraction(len(towers), len(tables))))
        self.assertEqual(count_towers(people, goods, most), len({plain.crowd(table) for table in towers}))

    def test_two_at_odds(self):
        for goods, most in ((1, 0), (1, 5), (2, 0), (2, 1), (2, 4), (3, 2), (5, 1), (4, 1)):
            pairs = list(product(rows_of(goods, most), repeat=2))
            self.assertEqual(two_at_odds(goods, most), plain.chance(pairs, lambda pair: plain.odds(*pair)))
        for goods, most in product(range(1, 6), (0, 1, 2, 7, 50, 98, 99)):
            told = chance_by_signs(goods, most)
            self.assertEqual(two_at_odds(goods, most), plain.as_pair(told))
            for people in range(1, 7):
                mean = told * (people * (people - 1) // 2)
                self.assertEqual(mean_drawn_odds(people, goods, most), plain.as_pair(mean))

    def test_over_all(self):
        for people, goods, most in product(range(1, 7), range(1, 6), (0, 1, 3, 99)):
            heaps = [Fraction(heap + 1, most + 1) for heap in range(most + 1)]
            mean = sum((chance ** (people - 1) for chance in heaps), Fraction(0)) / (most + 1)
            self.assertEqual(over_all(people, goods, most), plain.as_pair(mean ** goods))

    def test_ratios_are_in_lowest_terms(self):
        for people, goods, most in SMALL + [(6, 5, 99), (5, 4, 98), (1, 5, 99)]:
            for numerator, denominator in (
                two_at_odds(goods, most), mean_drawn_odds(people, goods, most), over_all(people, goods, most),
            ):
                self.assertEqual((gcd(numerator, denominator), denominator > 0), (1, True))
        for told in SMALL:
            self.assertEqual(gcd(*tower_drawn(*told)), 1)

    def test_towers(self):
        # The greatest heaps and differences of rows tell a tower, of each good for itself: all crowds of few rows.
        for people, goods, most in ((1, 1, 99), (2, 1, 99), (2, 2, 3), (3, 2, 2), (4, 2, 1), (6, 1, 2)):
            lots = plain.all_tables(people, goods, most)
            found = {table for table in lots if table == plain.crowd(table) and not plain.odds_of(table)}
            self.assertEqual(count_towers(people, goods, most), len(found))

    def test_rows(self):
        for goods, most in ((1, 0), (1, 9), (2, 0), (2, 3), (3, 2), (5, 1)):
            rows = rows_of(goods, most)
            for row in rows:
                self.assertEqual(count_rows_over(row, most), sum(plain.over(row, other) for other in rows))
                self.assertEqual(count_rows_under(row, most), sum(plain.over(other, row) for other in rows))
                self.assertEqual(count_rows_at_odds(row, most), sum(plain.odds(row, other) for other in rows))


class Edges(unittest.TestCase):

    def test_one_person(self):
        for goods, most in product((1, 5), (0, 1)):
            self.assertEqual((mean_drawn_odds(1, goods, most), over_all(1, goods, most)), ((0, 1), (1, 1)))
            self.assertEqual(tower_drawn(1, goods, most), (1, 1))
            self.assertEqual(count_towers(1, goods, most), (most + 1) ** goods)
            self.assertEqual(count_tower_tables(1, goods, most), (most + 1) ** goods)

    def test_one_good(self):
        for people, most in product((1, 2, 6), (0, 1, 99)):
            self.assertEqual((two_at_odds(1, most), mean_drawn_odds(people, 1, most)), ((0, 1), (0, 1)))
        self.assertEqual((count_tower_tables(1, 1, 99), tower_drawn(1, 1, 99)), (100, (1, 1)))
        self.assertEqual(count_towers(2, 1, 99), 5050)

    def test_heaps_of_nothing(self):
        for people, goods in product(range(1, 7), range(1, 6)):
            self.assertEqual((two_at_odds(goods, 0), mean_drawn_odds(people, goods, 0)), ((0, 1), (0, 1)))
            self.assertEqual((over_all(people, goods, 0), tower_drawn(people, goods, 0)), ((1, 1), (1, 1)))
            self.assertEqual((count_towers(people, goods, 0), count_tower_tables(people, goods, 0)), (1, 1))

    def test_six_people_and_five_goods(self):
        self.assertEqual(mean_drawn_odds(6, 5, 1), plain.as_pair(15 * chance_by_signs(5, 1)))
        self.assertEqual(over_all(6, 5, 1), plain.as_pair(Fraction(33, 64) ** 5))
        self.assertEqual(count_towers(6, 5, 1), 7 ** 5)
        self.assertEqual(count_towers(6, 1, 99), prod(range(100, 106)) // 720)

    def test_rows_at_the_bounds(self):
        self.assertEqual((count_rows_over((99,), 99), count_rows_under((99,), 99)), (100, 1))
        self.assertEqual((count_rows_over((0,), 0), count_rows_under((0,), 0), count_rows_at_odds((0,), 0)), (1, 1, 0))
        self.assertEqual((count_rows_over((0,) * 5, 99), count_rows_under((0,) * 5, 99)), (1, 10 ** 10))
        self.assertEqual((count_rows_over((99,) * 5, 99), count_rows_at_odds((99,) * 5, 99)), (10 ** 10, 0))
        self.assertEqual(count_rows_at_odds((99, 0), 99), 99 * 99)
        self.assertEqual(count_rows_at_odds((3, 1), 3), 16 - 8 - 3 + 1)

    def test_greatest_heap_above_most(self):
        for told in (count_rows_over, count_rows_under, count_rows_at_odds):
            self.assertIs(type(told((3, 5), 5)), int)
            for row, most in (((3, 5), 4), ((5,), 4), ((1, 0), 0), ((99,), 98), ((3, 5), -1), ((0,), -1), ((0,), 100)):
                self.assertRaises(BadNumber, told, row, most)
            for most in (None, True, False, "9", [9], (9,), {}, 10 ** 40):
                self.assertRaises(BadNumber, told, (1, 0), most)
            for row in ((), (1,) * 6, (100,), (-1,), (True,), [1], "1", None, 5, {}, (None,)):
                for most in (None, 100, 9):
                    self.assertRaises(BadRow, told, row, most)

    def test_wrong_numbers(self):
        for told in (mean_drawn_odds, over_all, tower_drawn, count_towers, count_tower_tables):
            for people, goods, most in ((0, 1, 1), (7, 1, 1), (1, 0, 1), (1, 6, 1), (1, 1, -1), (1, 1, 100)):
                self.assertRaises(BadNumber, told, people, goods, most)
            for wrong in (None, True, False, "1", [1], (1,), {}):
                for given in ((wrong, 1, 1), (1, wrong, 1), (1, 1, wrong), (6, 5, wrong), (6, wrong, 99)):
                    self.assertRaises(BadNumber, told, *given)
        for goods, most in ((0, 1), (6, 1), (1, -1), (1, 100), (True, 1), (1, True), (None, 1), (1, "1")):
            self.assertRaises(BadNumber, two_at_odds, goods, most)


class HowMany(HowManyCase):

    def test_as_many_tables_as_are_allowed(self):
        # There are no 5000 or 5001 tables: these are the numbers next to them.
        for people, goods, most in ((2, 1, 69), (1, 2, 69), (3, 1, 16), (6, 2, 1), (3, 2, 3)):
            tables = plain.all_tables(people, goods, most)
            towers = sum(1 for table in tables if not plain.odds_of(table))
            self.assertEqual(count_tower_tables(people, goods, most), towers)
            self.assertEqual(tower_drawn(people, goods, most), plain.as_pair(Fraction(towers, len(tables))))

    def test_more_tables(self):
        for given in ((2, 1, 70), (1, 2, 70), (3, 1, 17), (3, 5, 1), (6, 5, 99), (2, 2, 8), (6, 1, 4)):
            self.too_many(count_tower_tables, *given, most=5000)
            self.too_many(tower_drawn, *given, most=5000)

    def test_rows(self):
        self.assertEqual(count_towers(6, 2, 69), (prod(range(70, 76)) // 720) ** 2)
        self.assertEqual(count_towers(1, 2, 69), 4900)
        self.assertEqual(count_towers(6, 3, 16), (prod(range(17, 23)) // 720) ** 3)
        for given in ((1, 2, 70), (6, 2, 70), (1, 3, 17), (2, 4, 8), (1, 5, 5), (6, 5, 99)):
            self.too_many(count_towers, *given, most=5000)
        self.assertEqual((count_towers(1, 4, 7), count_towers(1, 5, 4)), (4096, 3125))

    def test_the_others_are_never_too_much(self):
        for told in (mean_drawn_odds, over_all):
            self.assertIs(type(told(6, 5, 99)), tuple)


if __name__ == "__main__":
    unittest.main()
