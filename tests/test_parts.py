"""Point 22, and gaps and quarrels_with of point 4: parts of tables, rows beside them."""

import unittest
from itertools import permutations, product

from laytogether.errors import Alone, BadGood, BadGoods, BadOrder, BadPerson, BadRow, NotLike
from laytogether.parts import (
    below, beside, fewest_goods, fewest_to_go, gaps, goods_in_order, kept_odds, middle_rows, needless_goods,
    people_in_order, quarrels_with, with_person, without_good, without_person,
)
from tests import plain
from tests.cases import HowManyCase
from tests.inputs import ODD, TOLD, WIDE

TABLES = plain.small_tables() + plain.three_by_two() + plain.more_tables() + [WIDE]


def columns_of(table, goods):
    return tuple(tuple(row[good] for good in goods) for row in table)


class Examples(unittest.TestCase):

    def test_examples(self):
        self.assertEqual(without_person(TOLD, 0), ((1, 2), (0, 4)))
        self.assertEqual(without_good(TOLD, 1), ((3,), (1,), (0,)))
        self.assertEqual(with_person(((1, 2),), (0, 3)), ((1, 2), (0, 3)))
        self.assertEqual(beside(((1,), (2,)), ((3,), (4,))), ((1, 3), (2, 4)))
        self.assertEqual(below(((1,),), ((2,),)), ((1,), (2,)))
        self.assertEqual(people_in_order(TOLD, (2, 1, 0)), ((0, 4), (1, 2), (3, 1)))
        self.assertEqual(goods_in_order(((1, 2),), (1, 0)), ((2, 1),))
        self.assertEqual(kept_odds(TOLD, 0), [])
        self.assertEqual(needless_goods(((1, 2, 2), (2, 1, 1))), [1, 2])
        self.assertEqual((fewest_goods(TOLD), fewest_to_go(TOLD)), ((0, 1), (0, 1)))
        self.assertEqual(middle_rows(TOLD), ((3, 4), (0, 1)))
        self.assertEqual((gaps(TOLD, (1, 2)), quarrels_with(TOLD, (1, 3))), ((1, 1), [0, 2]))


class PlainAnswers(unittest.TestCase):

    def each(self, check):
        for table in TABLES:
            with self.subTest(table=table):
                check(table, range(len(table)), range(len(table[0])))

    def test_without(self):
        def check(table, people, goods):
            for person in people:
                if len(table) > 1:
                    left = [table[other] for other in people if other != person]
                    self.assertEqual(without_person(table, person), tuple(left))
                    if len(table) < 6:
                        self.assertEqual(with_person(table, table[person]), (*table, table[person]))
            for good in goods:
                left = [other for other in goods if other != good]
                if left:
                    self.assertEqual(without_good(table, good), columns_of(table, left))
                    self.assertEqual(kept_odds(table, good), plain.odds_of(columns_of(table, left)))
        self.each(check)

    def test_together(self):
        for one, other in product(plain.all_tables(2, 1, 1), plain.all_tables(2, 2, 1)):
            made = tuple((mine[0], *yours) for mine, yours in zip(one, other))
            self.assertEqual(beside(one, other), made)
            self.assertEqual(beside(other, one), goods_in_order(made, (1, 2, 0)))
            self.assertEqual(below(other, other), (other[0], other[1], other[0], other[1]))
            self.assertEqual(below(one, one[::-1]), (one[0], one[1], one[1], one[0]))

    def test_orders(self):
        def check(table, people, goods):
            for order in list(permutations(people))[:30]:
                made = people_in_order(table, order)
                self.assertEqual([made[at] for at in people], [table[order[at]] for at in people])
            for order in list(permutations(goods))[:30]:
                made = goods_in_order(table, order)
                for person, at in product(people, goods):
                    self.assertEqual(made[person][at], table[person][order[at]])
        self.each(check)

    def test_goods_that_tell_the_pairs(self):
        def check(table, people, goods):
            pairs = plain.odds_of(table)
            lots = [lot for lot in plain.subsets(goods) if plain.odds_of(columns_of(table, lot)) == pairs]
            self.assertEqual(fewest_goods(table), lots[0])
            if len(goods) > 1:
                needless = [good for good in goods if tuple(other for other in goods if other != good) in lots]
                self.assertEqual(needless_goods(table), needless)
        self.each(check)

    def test_people_who_go(self):
        def check(table, people, goods):
            for lot in plain.subsets(people):
                left = [table[person] for person in people if person not in lot]
                if not plain.odds_of(left):
                    self.assertEqual(fewest_to_go(table), lot)
                    break
        self.each(check)

    def test_middle_rows(self):
        def check(table, people, goods):
            end = plain.tower(table)
            self.assertEqual(middle_rows(table), (end[0], end[-1]))
        self.each(check)

    def test_rows_beside_a_table(self):
        def check(table, people, goods):
            for row in list(product((0, 1, 2, 50), repeat=min(len(goods), 2))) + list(table):
                row = row + (1,) * (len(goods) - len(row))
                over = [plain.over(row, other) for other in table].count(True)
                under = [plain.over(other, row) for other in table].count(True)
                self.assertEqual(gaps(table, row), (over, under))
                self.assertEqual(quarrels_with(table, row), [at for at in people if plain.odds(row, table[at])])
        self.each(check)


class Edges(unittest.TestCase):

    def test_one_person_and_one_good(self):
        table = ((7,),)
        self.assertEqual((people_in_order(table, (0,)), goods_in_order(table, (0,))), (table, table))
        self.assertEqual((fewest_goods(table), fewest_to_go(table), middle_rows(table)), ((), (), ((7,), (7,))))
        self.assertEqual((gaps(table, (7,)), gaps(table, (8,)), gaps(table, (6,))), ((1, 1), (1, 0), (0, 1)))
        self.assertEqual(quarrels_with(table, (0,)), [])

    def test_alone(self):
        self.assertRaises(Alone, without_person, ((7, 7),), 0)
        self.assertRaises(Alone, without_good, ((7,), (8,)), 0)
        self.assertRaises(Alone, kept_odds, ((7,), (8,)), 0)
        self.assertRaises(Alone, needless_goods, ((7,), (8,)))
        self.assertEqual(without_person(((7,), (8,)), 1), ((7,),))
        self.assertEqual(without_good(((7, 8),), 0), ((8,),))

    def test_alone_comes_behind_the_others(self):
        for wrong in (1, -1, None, True, False, "0", (0,)):
            self.assertRaises(BadPerson, without_person, ((7, 7),), wrong)
            self.assertRaises(BadGood, without_good, ((7,), (8,)), wrong)
            self.assertRaises(BadGood, kept_odds, ((7,), (8,)), wrong)

    def test_towers(self):
        table = ((4, 4, 1), (9, 9, 1), (4, 4, 0))
        self.assertEqual((fewest_goods(table), fewest_to_go(table)), ((), ()))
        self.assertEqual((needless_goods(table), kept_odds(table, 2)), ([0, 1, 2], []))

    def test_goods_that_are_the_same(self):
        table = ((3, 3, 0), (1, 1, 5), (0, 0, 9))
        self.assertEqual((needless_goods(table), fewest_goods(table)), ([0, 1], (0, 2)))
        self.assertEqual((kept_odds(table, 0), kept_odds(table, 2)), ([(0, 1), (0, 2), (1, 2)], []))

    def test_the_least_of_the_smallest_lots(self):
        self.assertEqual(fewest_to_go(((0, 1), (1, 0), (5, 5), (2, 3), (3, 2))), (0, 3))
        self.assertEqual(fewest_to_go(((0, 9), (1, 1), (2, 2))), (0,))
        self.assertEqual(fewest_to_go(tuple((99 - k, k) for k in range(6))), (0, 1, 2, 3, 4))
        self.assertEqual(fewest_goods(((1, 0, 0, 1, 5), (0, 1, 1, 0, 5))), (0, 1))

    def test_wrong_orders(self):
        for wrong in ODD + [(0, 1), (0, 1, 3), (0, 0, 1)]:
            self.assertRaises(BadOrder, people_in_order, TOLD, wrong)
        for wrong in ODD + [(0, 1, 2), (0,), (1, 1)]:
            self.assertRaises(BadGoods, goods_in_order, TOLD, wrong)

    def test_equal_rows(self):
        table = ((4, 4), (4, 4))
        self.assertEqual((gaps(table, (4, 4)), quarrels_with(table, (5, 3))), ((2, 2), [0, 1]))
        self.assertEqual(gaps(table, (5, 3)), (0, 0))


class HowMany(HowManyCase):

    def test_people(self):
        table = ((1, 2),) * 5
        self.assertEqual(with_person(table, (3, 0)), ((1, 2),) * 5 + ((3, 0),))
        self.too_many(with_person, table + ((0, 0),), (3, 0), most=6)
        self.assertEqual(below(table, ((3, 0),)), ((1, 2),) * 5 + ((3, 0),))
        self.assertEqual(below(((3, 0),), table), ((3, 0),) + ((1, 2),) * 5)
        self.too_many(below, table, ((3, 0), (0, 0)), most=6)
        self.too_many(below, WIDE, WIDE, most=6)
        self.assertRaises(BadRow, with_person, WIDE, (1, 2))

    def test_goods(self):
        self.assertEqual(beside(((1, 2, 3, 4),), ((5,),)), ((1, 2, 3, 4, 5),))
        self.assertEqual(beside(((5,),), ((1, 2, 3, 4),)), ((5, 1, 2, 3, 4),))
        self.too_many(beside, ((1, 2, 3, 4),), ((5, 6),), most=5)
        self.too_many(beside, WIDE, WIDE, most=5)

    def test_tables_that_do_not_fit(self):
        self.assertRaises(NotLike, beside, ((1, 2), (3, 4)), ((5,),))
        self.assertRaises(NotLike, below, ((1, 2), (3, 4)), ((5,),))
        self.assertRaises(NotLike, beside, WIDE, WIDE[:5])
        self.assertRaises(NotLike, below, WIDE, ((1, 2, 3, 4),) * 6)
        self.assertRaises(NotLike, beside, WIDE, ((1,),))
        self.assertRaises(NotLike, below, WIDE, ((1,),))


if __name__ == "__main__":
    unittest.main()
