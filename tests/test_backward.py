"""Point 9: what comes ahead."""

import unittest
from itertools import product

from laytogether.backward import (
    all_befores, befores, between, count_befores, count_splits, farthest_before, is_source, meetings, sources, splits,
)
from laytogether.crowds import crowd, is_deed, tower
from laytogether.errors import BadRow, NotOver
from tests import plain
from tests.cases import HowManyCase
from tests.inputs import DEEP, WIDE
from tests.inputs import ONE_MORE as LEADS_TO_ONE_MORE

TOLD = ((3, 1), (1, 2), (0, 4))
BASE = ((3, 4), (0, 1))
TABLES = plain.small_tables() + plain.three_by_two() + plain.more_tables()[:5]
LOTS = [((0, 1, 2), (0, 1, 2)), ((0, 1, 1), (0, 0, 1), (0, 1, 2)), ((0, 1), (3, 3), (2, 5)), ((0, 1, 2, 3), (0, 0, 1, 1))]

# There are 3000 crowds of which deeds make this one, and 3001 of which they make the other one.
EXACT = ((2, 2, 2, 2, 2), (1, 1, 0, 1, 2), (0, 0, 1, 1, 1), (0, 0, 0, 0, 1))
ONE_MORE = ((3, 2, 3, 1), (2, 3, 1, 2), (2, 1, 2, 3), (2, 0, 0, 2), (0, 1, 1, 2), (0, 0, 0, 1))

ON_ONE = (all_befores, sources, farthest_before)


class Examples(unittest.TestCase):

    def test_examples(self):
        before = ((3, 1), (0, 4))
        self.assertEqual(splits(BASE, (3, 4), (0, 1)), [before])
        self.assertEqual(count_splits(BASE, (3, 4), (3, 1)), 0)
        self.assertEqual(befores(BASE), [before])
        self.assertEqual(count_befores(BASE), 1)
        self.assertIs(is_source(TOLD), True)
        self.assertEqual(all_befores(BASE), [before, BASE])
        self.assertEqual(sources(BASE), [before])
        self.assertEqual(farthest_before(BASE), (1, before))
        self.assertEqual(len(between(TOLD, ((3, 4), (1, 2), (0, 1)))), 6)
        self.assertEqual(meetings(TOLD, ((3, 2), (1, 1), (0, 4))), [((3, 2), (1, 1), (0, 4))])


class PlainAnswers(unittest.TestCase):

    def test_splits(self):
        for many in (1, 2, 3):
            rows = list(product(range(3), repeat=many))
            for one, other in product(rows, rows):
                table = (rows[0], rows[-1])
                if not plain.over(one, other):
                    self.assertRaises(NotOver, splits, table, one, other)
                    self.assertRaises(NotOver, count_splits, table, one, other)
                    continue
                made = [pair for pair in product(rows, rows) if pair[0] > pair[1] and plain.odds(*pair)]
                made = [pair for pair in made if plain.deeds(pair) == {plain.crowd((one, other))}]
                self.assertEqual(splits(table, one, other), made)
                self.assertEqual(count_splits(table, one, other), len(made))

    def test_befores(self):
        for table in TABLES:
            with self.subTest(table=table):
                told = plain.befores(table)
                self.assertEqual(befores(table), sorted(told))
                self.assertEqual(count_befores(table), len(told))
                self.assertIs(is_source(table), not told)
                self.assertTrue(all(is_deed(before, table) for before in told))

    def test_all_befores(self):
        for table in TABLES:
            with self.subTest(table=table):
                told = plain.all_befores(table)
                self.assertEqual(all_befores(table), sorted(told))
                self.assertEqual(sources(table), sorted(before for before in told if not plain.befores(before)))
                most = max(told.values())
                self.assertEqual(farthest_before(table), (most, min(one for one in told if told[one] == most)))

    def test_between(self):
        for lot in LOTS:
            crowds = plain.crowds_of(lot)
            met = {told: plain.met(told) for told in crowds}
            for one, other in product(crowds, crowds):
                told = [middle for middle in crowds if middle in met[one] and other in met[middle]]
                self.assertEqual(between(one, other), told)
                self.assertEqual(between(one[::-1], other[::-1]), told)

    def test_meetings(self):
        for lot in LOTS:
            crowds = plain.crowds_of(lot)
            met = {told: plain.met(told) for told in crowds}
            for one, other in product(crowds, crowds):
                both = [told for told in crowds if told in met[one] and told in met[other]]
                first = [told for told in both if not any(told in met[ahead] for ahead in both if ahead != told)]
                self.assertEqual(meetings(one, other), first)
                self.assertEqual(meetings(one[::-1], other[::-1]), first)


class Edges(unittest.TestCase):

    def test_rows_need_not_be_those_of_people(self):
        self.assertEqual(splits(BASE, (99, 99), (0, 0)), [((99, 0), (0, 99))])

    def test_rows_of_one_good_and_equal_rows_have_no_splits(self):
        self.assertEqual(splits(((5,),), (9,), (0,)), [])
        self.assertEqual(splits(BASE, (7, 7), (7, 7)), [])
        self.assertEqual(count_splits(BASE, (7, 7), (7, 7)), 0)

    def test_five_goods(self):
        found = splits(DEEP, (1, 1, 1, 1, 1), (0, 0, 0, 0, 0))
        self.assertEqual((len(found), count_splits(DEEP, (1,) * 5, (0,) * 5)), (15, 15))
        self.assertEqual(found[0], ((1, 0, 0, 0, 0), (0, 1, 1, 1, 1)))
        self.assertEqual(found[-1], ((1, 1, 1, 1, 0), (0, 0, 0, 0, 1)))
        self.assertEqual(count_splits(DEEP, (9, 4, 9, 4, 9), (0, 4, 0, 4, 0)), 3)

    def test_one_person_and_one_good(self):
        for table in (((0, 99),), ((1,), (5,), (0,), (1,), (99,), (5,))):
            own = crowd(table)
            self.assertEqual((befores(table), count_befores(table), is_source(table)), ([], 0, True))
            self.assertEqual((all_befores(table), sources(table), farthest_before(table)), ([own], [own], (0, own)))
            self.assertEqual((between(table, table), meetings(table, table)), ([own], [own]))

    def test_equal_rows(self):
        table = ((1, 1), (1, 1), (0, 0), (0, 0))
        self.assertEqual(befores(table), [((1, 1), (1, 0), (0, 1), (0, 0))])
        self.assertEqual(farthest_before(table), (2, ((1, 0), (1, 0), (0, 1), (0, 1))))

    def test_the_nearest_crowd_need_not_be_the_least(self):
        table = ((1, 2, 3), (0, 2, 0), (3, 2, 3), (2, 1, 1))
        told = plain.all_befores(table)
        first = [before for before in told if not plain.befores(before)]
        self.assertEqual((len(first), sources(table)), (4, sorted(first)))
        one, other = ((2, 0, 2), (1, 2, 0), (0, 2, 1)), ((1, 2, 0), (0, 2, 2), (2, 0, 1))
        told = [((2, 2, 2), (1, 0, 0), (0, 2, 1)), ((2, 2, 2), (1, 0, 1), (0, 2, 0)), ((2, 2, 2), (1, 2, 0), (0, 0, 1))]
        self.assertEqual((meetings(one, other), meetings(other, one)), (told, told))

    def test_where_one_does_not_come_to_other(self):
        self.assertEqual(between(BASE, ((3, 1), (0, 4))), [])
        self.assertEqual(meetings(BASE, ((3, 1), (0, 5))), [])

    def test_tables_that_are_not_like(self):
        for other in (((3,), (0,)), ((3, 4),), TOLD):
            self.assertEqual((between(BASE, other), between(other, BASE)), ([], []))
            self.assertEqual((meetings(BASE, other), meetings(other, BASE)), ([], []))

    def test_not_over_comes_behind_the_others(self):
        self.assertRaises(NotOver, splits, BASE, (0, 9), (9, 0))
        self.assertRaises(NotOver, splits, BASE, (0, 0), (0, 1))
        self.assertRaises(BadRow, splits, BASE, (0, 0), (0, 1, 1))
        self.assertRaises(BadRow, count_splits, BASE, (0, 0), (1, True))


class HowMany(HowManyCase):

    def test_as_many_as_are_allowed(self):
        found = all_befores(EXACT)
        self.assertEqual(len(found), 3000)
        self.assertIn(farthest_before(EXACT)[1], found)
        first = sources(EXACT)[0]
        self.assertIn(first, between(first, EXACT))

    def test_more(self):
        for told in ON_ONE:
            self.too_many(told, ONE_MORE)
            self.too_many(told, DEEP)
        self.too_many(between, ONE_MORE, ONE_MORE)
        self.too_many(meetings, LEADS_TO_ONE_MORE, LEADS_TO_ONE_MORE)
        self.too_many(between, WIDE, DEEP)
        self.too_many(between, BASE, DEEP)
        self.too_many(meetings, WIDE, DEEP)
        self.too_many(meetings, DEEP, WIDE)
        self.too_many(meetings, BASE, WIDE)

    def test_between_counts_only_what_comes_ahead_of_other(self):
        self.assertEqual(between(WIDE, WIDE), [crowd(WIDE)])
        self.assertEqual(between(DEEP, WIDE), [])

    def test_one_deed_backward_is_never_too_much(self):
        self.assertTrue(all(is_deed(before, DEEP) for before in befores(DEEP)))
        self.assertEqual(count_befores(DEEP), 15 * 15)
        self.assertFalse(is_source(DEEP))
        self.assertTrue(is_source(((1, 0), (0, 1), (0, 1))))
        self.assertEqual(meetings(DEEP, DEEP), [tower(WIDE)])


if __name__ == "__main__":
    unittest.main()
