"""Points 6 and 7: deeds on crowds."""

import unittest
from itertools import product

from laytogether.crowds import (
    all_met, can_come, come_together, count_by_odds, count_met, count_ways, crowd, is_deed, least_deeds, most_deeds,
    next_crowds, shows_way, tower, way,
)
from laytogether.errors import NotLike
from tests import plain
from tests.cases import HowManyCase
from tests.inputs import EXACT, ODD, ONE_MORE, WIDE

TOLD = ((3, 1), (1, 2), (0, 4))
TABLES = plain.small_tables() + plain.three_by_two() + plain.more_tables()
# Crowds with one lot of heaps: all pairs of them are walked through.
LOTS = [((0, 1, 2), (0, 1, 2)), ((0, 1, 1), (0, 0, 1), (0, 1, 2)), ((0, 1), (3, 3), (2, 5)), ((0, 1, 2, 3), (0, 0, 1, 1))]

ON_ONE = (all_met, count_met, count_by_odds)
ON_TWO = (can_come, least_deeds, most_deeds, count_ways, way)


class Examples(unittest.TestCase):

    def test_examples(self):
        told = TOLD
        end = ((3, 4), (1, 2), (0, 1))
        self.assertEqual(crowd(((0, 4), (3, 1))), ((3, 1), (0, 4)))
        made = [((3, 1), (1, 4), (0, 2)), ((3, 2), (1, 1), (0, 4)), end]
        self.assertEqual(next_crowds(told), made)
        self.assertEqual(tower(told), end)
        self.assertIs(come_together(told, ((3, 2), (1, 4), (0, 1))), True)
        self.assertIs(is_deed(told, end), True)
        self.assertEqual(count_met(told), 6)
        self.assertEqual(count_by_odds(told), (1, 2, 2, 1))
        self.assertIs(can_come(told, end), True)
        self.assertEqual(least_deeds(told, end), 1)
        self.assertEqual(most_deeds(told, end), 3)
        self.assertEqual(count_ways(told, end), 5)
        self.assertEqual(way(((3, 1), (0, 4)), ((3, 4), (0, 1))), (((3, 1), (0, 4)), ((3, 4), (0, 1))))
        self.assertIs(shows_way(told, told, (told,)), True)
        self.assertEqual(len(all_met(told)), 6)


class PlainAnswers(unittest.TestCase):

    def test_one_deed(self):
        for table in TABLES:
            with self.subTest(table=table):
                self.assertEqual(crowd(table), plain.crowd(table))
                self.assertEqual(tower(table), plain.tower(table))
                self.assertEqual(next_crowds(table), sorted(plain.deeds(table)))

    def test_deeds_make_the_pairs_at_odds_fewer_and_end_at_the_tower(self):
        for table in TABLES:
            for made in next_crowds(table):
                self.assertLess(len(plain.odds_of(made)), len(plain.odds_of(table)))
            ends = [told for told in plain.met(table) if not plain.deeds(told)]
            self.assertEqual(ends, [tower(table)])

    def test_all_that_deeds_make(self):
        for table in TABLES:
            with self.subTest(table=table):
                met = plain.met(table)
                self.assertEqual(all_met(table), sorted(met))
                self.assertEqual(count_met(table), len(met))
                self.assertEqual(count_by_odds(table), plain.counted(len(plain.odds_of(told)) for told in met))

    def test_ways(self):
        for lot in LOTS:
            crowds = plain.crowds_of(lot)
            for one, other in product(crowds, crowds):
                with self.subTest(one=one, other=other):
                    self.check_ways(one, other)

    def check_ways(self, one, other):
        found = [path for path in plain.paths(one) if path[-1] == other]
        lengths = [len(path) - 1 for path in found]
        self.assertIs(can_come(one, other), bool(found))
        self.assertIs(is_deed(one, other), 1 in lengths)
        self.assertEqual(least_deeds(one, other), min(lengths, default=None))
        self.assertEqual(most_deeds(one, other), max(lengths, default=None))
        self.assertEqual(count_ways(one, other), len(found))
        told = way(one, other)
        best = [path for path in found if len(path) - 1 == min(lengths)]
        self.assertTrue(told in best if best else told is None)
        self.assertIs(shows_way(one, other, told), True)
        self.assertIs(shows_way(one, other, None), not best)
        for path in found:
            self.assertIs(shows_way(one, other, path), path in best)

    def test_names_do_not_count(self):
        one, other = TOLD, ((1, 2), (3, 4), (0, 1))
        for turned in (one[::-1], one[1:] + one[:1]):
            self.assertEqual(next_crowds(turned), next_crowds(one))
            self.assertEqual(all_met(turned), all_met(one))
            self.assertIs(is_deed(turned, other), True)
            self.assertEqual([told(turned, other) for told in ON_TWO[:4]], [told(one, other) for told in ON_TWO[:4]])
            self.assertTrue(shows_way(turned, other[::-1], way(one, other)))
            self.assertEqual(least_deeds(turned, one), 0)

    def test_come_together(self):
        for one, other in product(plain.all_tables(2, 2, 1), plain.all_tables(2, 2, 1)):
            self.assertIs(come_together(one, other), plain.tower(one) == plain.tower(other))


class Edges(unittest.TestCase):

    def test_one_person(self):
        table = ((0, 99),)
        self.assertEqual((crowd(table), tower(table), next_crowds(table)), (table, table, []))
        self.assertEqual((all_met(table), count_met(table), count_by_odds(table)), ([table], 1, (1,)))
        self.assertEqual([told(table, table) for told in ON_TWO], [True, 0, 0, 1, (table,)])
        other = ((1, 99),)
        self.assertEqual([told(table, other) for told in ON_TWO], [False, None, None, 0, None])
        self.assertIs(shows_way(table, other, None), True)
        self.assertIs(shows_way(table, table, (table,)), True)
        self.assertIs(shows_way(table, table, (other,)), False)
        self.assertIs(is_deed(table, table), False)

    def test_towers_and_equal_rows(self):
        table = ((4, 4), (9, 9), (4, 4))
        self.assertEqual(crowd(table), ((9, 9), (4, 4), (4, 4)))
        self.assertEqual((next_crowds(table), all_met(table)), ([], [crowd(table)]))
        table = ((1, 0), (0, 1), (1, 0), (0, 1))
        self.assertEqual(next_crowds(table), [((1, 1), (1, 0), (0, 1), (0, 0))])
        self.assertEqual(tower(table), ((1, 1), (1, 1), (0, 0), (0, 0)))

    def test_six_people_and_five_goods(self):
        table = tuple((99, 0, k, 5 - k, 7) for k in range(6))
        self.assertEqual(tower(table), tuple((99, 0, 5 - k, 5 - k, 7) for k in range(6)))
        self.assertEqual((count_met(table), most_deeds(table, tower(table))), (720, 15))
        self.assertEqual(least_deeds(table, tower(table)), 3)

    def test_tables_that_are_not_like(self):
        for other in (((3, 1), (1, 2)), ((3,), (1,), (0,)), ((3, 1, 0), (1, 2, 0), (0, 4, 0))):
            self.assertIs(is_deed(TOLD, other), False)
            self.assertIs(come_together(TOLD, other), False)
            for told in ON_TWO:
                self.assertRaises(NotLike, told, TOLD, other)
                self.assertRaises(NotLike, told, other, TOLD)
            for value in (None, (TOLD,), "x"):
                self.assertRaises(NotLike, shows_way, TOLD, other, value)

    def test_not_like_comes_before_too_many(self):
        for told in ON_TWO:
            self.assertRaises(NotLike, told, WIDE, TOLD)
        self.assertRaises(NotLike, shows_way, WIDE, TOLD, None)


class HowMany(HowManyCase):

    def test_as_many_as_are_allowed(self):
        self.assertEqual(count_met(EXACT), 3000)
        self.assertEqual(len(all_met(EXACT)), 3000)
        self.assertEqual(sum(count_by_odds(EXACT)), 3000)
        self.assertTrue(can_come(EXACT, tower(EXACT)))
        self.assertTrue(shows_way(EXACT, tower(EXACT), way(EXACT, tower(EXACT))))
        self.assertEqual(least_deeds(EXACT, tower(EXACT)), len(way(EXACT, tower(EXACT))) - 1)

    def test_more(self):
        for told in ON_ONE:
            self.too_many(told, ONE_MORE)
            self.too_many(told, WIDE)
        for told in ON_TWO:
            self.too_many(told, ONE_MORE, ONE_MORE)
            self.too_many(told, WIDE, WIDE)
            self.too_many(told, WIDE, tower(WIDE))
        self.too_many(shows_way, ONE_MORE, ONE_MORE, (ONE_MORE,))
        for value in (None, (WIDE,), "x"):
            self.too_many(shows_way, WIDE, WIDE, value)

    def test_only_what_is_made_of_the_first_table_counts(self):
        end = tower(WIDE)
        self.assertEqual([told(end, WIDE) for told in ON_TWO], [False, None, None, 0, None])
        self.assertIs(shows_way(end, WIDE, None), True)

    def test_one_deed_of_many_is_never_too_much(self):
        self.assertEqual(next_crowds(WIDE), sorted(plain.deeds(WIDE)))
        self.assertTrue(is_deed(WIDE, next_crowds(WIDE)[0]))
        self.assertTrue(come_together(WIDE, tower(WIDE)))


class ShowsWay(unittest.TestCase):

    def test_values_of_all_kinds(self):
        one, other = ((3, 1), (0, 4)), ((3, 4), (0, 1))
        values = ODD + [5, (one,), (other,), (one, one, other), (other, one), [one, other], (one, list(other))]
        values += [(one[::-1], other), (one, other[::-1]), (one, None), (None, other), (one, "x"), (one, ())]
        for value in values:
            self.assertIs(shows_way(one, other, value), False, value)
        self.assertIs(shows_way(one, other, (one, other)), True)

    def test_true_and_false_are_no_heaps(self):
        one, other = ((1, 0), (0, 1)), ((1, 1), (0, 0))
        self.assertIs(shows_way(one, other, (one, other)), True)
        self.assertIs(shows_way(one, other, (((True, False), (False, True)), other)), False)
        self.assertIs(shows_way(one, other, (one, ((1, 1), (0, False)))), False)

    def test_where_there_is_no_way(self):
        one, other = ((3, 4), (0, 1)), ((3, 1), (0, 4))
        for value in ODD[1:] + [(one, other), (one,), (), 5]:
            self.assertIs(shows_way(one, other, value), False, value)
        self.assertIs(shows_way(one, other, None), True)


if __name__ == "__main__":
    unittest.main()
