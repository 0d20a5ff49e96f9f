"""Points 2, 3 and 4: tables."""

import unittest
from itertools import product

from laytogether.errors import NotTwo
from laytogether.tables import (
    at_odds, bottoms, count_at_odds, fits, free, goods, heaps, highest_tower, is_over, is_tower, more_of, odds_with,
    people, place, quarrelsome, same_rows, tops, totals, widest_odds,
)
from tests import plain

ALL = plain.small_tables() + plain.three_by_two() + plain.more_tables()


class Examples(unittest.TestCase):

    def test_examples(self):
        told = ((3, 1), (1, 2), (0, 2))
        self.assertEqual(people(told), 3)
        self.assertEqual(goods(told), 2)
        self.assertEqual(heaps(told, 1), (2, 2, 1))
        self.assertEqual(totals(told), (4, 3, 2))
        self.assertIs(is_over(told, 1, 2), True)
        self.assertEqual(more_of(told, 0, 1), (0,))
        self.assertEqual(at_odds(told), [(0, 1), (0, 2)])
        self.assertEqual(count_at_odds(told), 2)
        self.assertIs(is_tower(told), False)
        self.assertEqual(tops(told), [])
        self.assertEqual(bottoms(told), [])
        self.assertEqual(free(told), [0, 1])
        self.assertEqual(highest_tower(told), (1, 2))
        self.assertEqual(widest_odds(told), (0, 1))
        self.assertEqual(place(told, (1, 2)), 2)
        self.assertIs(fits(told, (3, 2)), True)
        self.assertEqual(odds_with(told, 0), [1, 2])
        self.assertEqual(quarrelsome(told), (2, 0))
        self.assertEqual(same_rows(((1,), (2,), (1,))), [(0, 2), (1,)])


class PlainAnswers(unittest.TestCase):

    def each(self, check):
        for table in ALL:
            with self.subTest(table=table):
                check(table, range(len(table)))

    def test_sizes_and_sums(self):
        def check(table, names):
            self.assertEqual(people(table), len(names))
            self.assertEqual(goods(table), len(table[0]))
            self.assertEqual(totals(table), tuple(sum(row) for row in table))
            for good in range(len(table[0])):
                self.assertEqual(heaps(table, good), tuple(row[good] for row in plain.tower(table)))
        self.each(check)

    def test_same_rows(self):
        def check(table, names):
            lots = [tuple(person for person in names if table[person] == row) for row in table]
            self.assertEqual(same_rows(table), sorted(set(lots)))
        self.each(check)

    def test_over(self):
        def check(table, names):
            for one, other in product(names, names):
                if one == other:
                    self.assertRaises(NotTwo, is_over, table, one, other)
                    self.assertRaises(NotTwo, more_of, table, one, other)
                    continue
                self.assertIs(is_over(table, one, other), plain.over(table[one], table[other]))
                more = [good for good in range(len(table[0])) if table[one][good] > table[other][good]]
                self.assertEqual(more_of(table, one, other), tuple(more))
        self.each(check)

    def test_odds(self):
        def check(table, names):
            pairs = plain.odds_of(table)
            self.assertEqual(at_odds(table), pairs)
            self.assertEqual(count_at_odds(table), len(pairs))
            self.assertIs(is_tower(table), pairs == [])
            lots = [[other for other in names if plain.odds(table[person], table[other])] for person in names]
            self.assertEqual([odds_with(table, person) for person in names], lots)
            most = max(len(lot) for lot in lots)
            self.assertEqual(quarrelsome(table), (most, [len(lot) for lot in lots].index(most)))
        self.each(check)

    def test_ends(self):
        def check(table, names):
            over = plain.over
            self.assertEqual(tops(table), [k for k in names if all(over(table[k], row) for row in table)])
            self.assertEqual(bottoms(table), [k for k in names if all(over(row, table[k]) for row in table)])
            covered = [k for k in names if any(row != table[k] and over(row, table[k]) for row in table)]
            self.assertEqual(free(table), [k for k in names if k not in covered])
        self.each(check)

    def test_greatest_lots(self):
        def check(table, names):
            pairs = plain.odds_of(table)
            lots = plain.subsets(list(names))
            calm = [lot for lot in lots if not any((a, b) in pairs for a in lot for b in lot)]
            wild = [lot for lot in lots if all((a, b) in pairs for a in lot for b in lot if a < b)]
            self.assertEqual(highest_tower(table), min(calm, key=lambda lot: (-len(lot), lot)))
            self.assertEqual(widest_odds(table), min(wild, key=lambda lot: (-len(lot), lot)))
        self.each(check)

    def test_rows_beside_a_table(self):
        def check(table, names):
            for row in product((0, 1, 2, 50), repeat=min(len(table[0]), 2)):
                row = row + (1,) * (len(table[0]) - len(row))
                self.assertEqual(place(table, row), sum(1 for other in table if plain.over(row, other)))
                self.assertIs(fits(table, row), not any(plain.odds(row, other) for other in table))
        self.each(check)


class Edges(unittest.TestCase):

    def test_one_person(self):
        table = ((0, 99, 5, 5, 1),)
        self.assertEqual((people(table), goods(table), totals(table)), (1, 5, (110,)))
        self.assertEqual((at_odds(table), count_at_odds(table), is_tower(table)), ([], 0, True))
        self.assertEqual((tops(table), bottoms(table), free(table)), ([0], [0], [0]))
        self.assertEqual((highest_tower(table), widest_odds(table), quarrelsome(table)), ((0,), (0,), (0, 0)))
        self.assertEqual((odds_with(table, 0), same_rows(table), heaps(table, 1)), ([], [(0,)], (99,)))
        self.assertEqual((place(table, table[0]), fits(table, table[0])), (1, True))
        self.assertEqual((place(table, (99, 98, 99, 99, 99)), fits(table, (99, 98, 99, 99, 99))), (0, False))

    def test_six_people_all_at_odds(self):
        table = tuple((99 - k, k) for k in range(6))
        self.assertEqual(count_at_odds(table), 15)
        self.assertEqual(at_odds(table)[-1], (4, 5))
        self.assertEqual(widest_odds(table), (0, 1, 2, 3, 4, 5))
        self.assertEqual(highest_tower(table), (0,))
        self.assertEqual(quarrelsome(table), (5, 0))
        self.assertEqual((tops(table), bottoms(table), free(table)), ([], [], [0, 1, 2, 3, 4, 5]))

    def test_six_people_with_one_good(self):
        table = ((0,), (99,), (5,), (99,), (0,), (0,))
        self.assertTrue(is_tower(table))
        self.assertEqual(heaps(table, 0), (99, 99, 5, 0, 0, 0))
        self.assertEqual((tops(table), bottoms(table), free(table)), ([1, 3], [0, 4, 5], [1, 3]))
        self.assertEqual(same_rows(table), [(0, 4, 5), (1, 3), (2,)])
        self.assertEqual(highest_tower(table), (0, 1, 2, 3, 4, 5))
        self.assertEqual(place(table, (5,)), 4)

    def test_equal_rows_are_over_one_another(self):
        table = ((4, 4), (4, 4))
        self.assertTrue(is_over(table, 0, 1) and is_over(table, 1, 0))
        self.assertEqual(more_of(table, 0, 1), ())
        self.assertEqual((tops(table), bottoms(table), free(table)), ([0, 1], [0, 1], [0, 1]))
        self.assertEqual((widest_odds(table), highest_tower(table), same_rows(table)), ((0,), (0, 1), [(0, 1)]))

    def test_the_least_of_the_largest_lots(self):
        table = ((1, 4), (0, 5), (3, 2), (2, 3), (3, 1))
        self.assertEqual(widest_odds(table), (0, 1, 2, 3))
        self.assertEqual(highest_tower(table), (2, 4))
        table = ((0, 9), (9, 0), (1, 9), (9, 1))
        self.assertEqual(highest_tower(table), (0, 2))
        self.assertEqual(widest_odds(table), (0, 1))


if __name__ == "__main__":
    unittest.main()
