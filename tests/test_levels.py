"""Point 21: levels of goods."""

import unittest
from itertools import product

from laytogether.crowds import tower
from laytogether.errors import BadLevels, BadTable
from laytogether.levels import (
    alike_at, both_at, counts_at, cut, is_squeezed, is_tower_by_levels, quarrel_levels, squeezed, tower_at,
)
from laytogether.tables import is_tower
from tests import plain
from tests.inputs import TOLD, WIDE

TABLES = plain.small_tables() + plain.three_by_two() + plain.more_tables()


def plain_cut(table, levels):
    rows = []
    for row in table:
        rows.append(tuple(0 if heap < level else 1 for heap, level in zip(row, levels)))
    return tuple(rows)


def some_levels(table):
    """Levels around the heaps of a table, the least and the greatest of all among them."""
    told = [sorted({0, 99, row[0], row[0] + 1 if row[0] < 99 else 99}) for row in zip(*table)]
    return list(product(*told))


def all_cuts(table):
    """The ascending pairs of levels that are heaps of their goods, and what they cut."""
    return [(levels, plain_cut(table, levels)) for levels in product(*[sorted(set(column)) for column in zip(*table)])]


class Examples(unittest.TestCase):

    def test_examples(self):
        self.assertEqual(cut(TOLD, (1, 2)), ((1, 0), (1, 1), (0, 1)))
        self.assertEqual((counts_at(TOLD, (1, 2)), both_at(TOLD, (1, 2))), ((2, 2), 1))
        self.assertEqual(tower_at(TOLD, (1, 2)), ((1, 1), (1, 1), (0, 0)))
        self.assertIs(alike_at(TOLD, TOLD[::-1], (1, 2)), True)
        self.assertIs(is_tower_by_levels(TOLD), False)
        self.assertEqual(quarrel_levels(TOLD), (1, 2))
        self.assertEqual(squeezed(TOLD), ((2, 0), (1, 1), (0, 2)))
        self.assertIs(is_squeezed(TOLD), False)


class PlainAnswers(unittest.TestCase):

    def each(self, check):
        for table in TABLES:
            with self.subTest(table=table):
                check(table)

    def test_cuts(self):
        def check(table):
            for levels in some_levels(table):
                told = plain_cut(table, levels)
                self.assertEqual(cut(table, levels), told)
                self.assertTrue(all(type(heap) is int for row in cut(table, levels) for heap in row))
                self.assertEqual(counts_at(table, levels), tuple(column.count(1) for column in zip(*told)))
                self.assertEqual(both_at(table, levels), told.count((1,) * len(levels)))
                self.assertEqual(tower_at(table, levels), plain.tower(told))
                self.assertEqual(tower_at(table, levels), cut(tower(table), levels))
        self.each(check)

    def test_towers_by_levels(self):
        def check(table):
            quarrels = [levels for levels, told in all_cuts(table) if plain.odds_of(told)]
            self.assertIs(is_tower_by_levels(table), not quarrels)
            self.assertIs(is_tower_by_levels(table), is_tower(table))
            self.assertEqual(quarrel_levels(table), min(quarrels, default=None))
        self.each(check)

    def test_squeezed(self):
        def check(table):
            told = tuple(
                tuple(len({other[good] for other in table if other[good] < heap}) for good, heap in enumerate(row))
                for row in table
            )
            self.assertEqual(squeezed(table), told)
            self.assertIs(is_squeezed(table), told == table)
            self.assertIs(is_squeezed(told), True)
            self.assertEqual(squeezed(told), told)
            self.assertEqual(plain.odds_of(told), plain.odds_of(table))
        self.each(check)

    def test_alike(self):
        tables = plain.all_tables(2, 2, 2)
        for one, other in product(tables[::3], tables):
            for levels in ((0, 0), (1, 1), (1, 2), (2, 1), (0, 99)):
                same = plain.crowd(plain_cut(one, levels)) == plain.crowd(plain_cut(other, levels))
                self.assertIs(alike_at(one, other, levels), same)


class Edges(unittest.TestCase):

    def test_one_person(self):
        table = ((0, 99),)
        for levels, told in (((0, 0), (1, 1)), ((99, 99), (0, 1)), ((1, 99), (0, 1)), ((0, 99), (1, 1))):
            self.assertEqual((cut(table, levels), tower_at(table, levels)), ((told,), (told,)))
            self.assertEqual((counts_at(table, levels), both_at(table, levels)), (told, min(told)))
        self.assertEqual((quarrel_levels(table), squeezed(table), is_squeezed(table)), (None, ((0, 0),), False))

    def test_one_good_of_six_people(self):
        table = ((0,), (99,), (5,), (99,), (0,), (0,))
        self.assertEqual(cut(table, (99,)), ((0,), (1,), (0,), (1,), (0,), (0,)))
        self.assertEqual((counts_at(table, (0,)), counts_at(table, (1,)), both_at(table, (6,))), ((6,), (3,), 2))
        self.assertEqual(squeezed(table), ((0,), (2,), (1,), (2,), (0,), (0,)))
        self.assertEqual((is_tower_by_levels(table), quarrel_levels(table)), (True, None))

    def test_six_people_and_five_goods(self):
        self.assertEqual(quarrel_levels(WIDE), min(levels for levels, told in all_cuts(WIDE) if plain.odds_of(told)))
        self.assertEqual((is_squeezed(WIDE), squeezed(WIDE)), (True, WIDE))
        self.assertEqual((is_tower_by_levels(tower(WIDE)), quarrel_levels(tower(WIDE))), (True, None))
        self.assertEqual((both_at(WIDE, (0,) * 5), both_at(WIDE, (99,) * 5)), (6, 0))
        self.assertEqual((counts_at(WIDE, (0, 1, 3, 5, 99)), both_at(WIDE, (2, 1, 0, 0, 2))), ((6, 5, 3, 1, 0), 3))

    def test_goods_with_one_heap_alone(self):
        table = ((7, 4), (7, 2), (7, 4))
        self.assertEqual((quarrel_levels(table), squeezed(table)), (None, ((0, 1), (0, 0), (0, 1))))
        self.assertEqual((cut(table, (8, 4)), counts_at(table, (7, 4))), (((0, 1), (0, 0), (0, 1)), (3, 2)))

    def test_tables_that_are_not_like_are_not_alike(self):
        for other in (TOLD[:2], TOLD + ((0, 0),), ((0,),) * 3, ((0, 0, 0),) * 3):
            self.assertIs(alike_at(TOLD, other, (99, 99)), False)
        self.assertIs(alike_at(((0,),) * 3, TOLD, (99,)), False)
        self.assertRaises(BadLevels, alike_at, TOLD, ((0,),) * 3, (99,))
        self.assertRaises(BadLevels, alike_at, ((0,),) * 3, TOLD, (99, 99))
        self.assertRaises(BadTable, alike_at, TOLD, None, None)

    def test_the_heaps_of_levels_need_not_be_those_of_the_table(self):
        self.assertIs(alike_at(((5, 0), (0, 5)), ((9, 1), (1, 9)), (2, 2)), True)
        self.assertIs(alike_at(((5, 0), (0, 5)), ((9, 1), (1, 9)), (1, 1)), False)


if __name__ == "__main__":
    unittest.main()
