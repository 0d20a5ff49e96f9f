"""Points 15 and 16: numbers and chances."""

import unittest
from fractions import Fraction

from laytogether.counts import (
    all_crowds, all_tables, count_by_odds, count_crowds, count_deeds, count_sources, count_tables, crowds_by_odds,
    longest_row, mean_odds, meet_chance, most_quarrels, odds_chance, top_chance, tower_chance,
)
from tests import plain
from tests.cases import HowManyCase

SMALL = [
    ((7,),), ((0,), (99,), (5,), (5,), (0,)), ((0, 99),), ((4, 4),), ((0, 1), (0, 1)), ((0, 1), (3, 3), (5, 2)),
    ((0, 1),) * 5, ((2, 0, 1),), ((1, 1, 1), (2, 2, 2)), ((0, 1, 2), (0, 1, 2)), ((0, 1, 1), (1, 0, 0)),
    ((0, 1, 1), (0, 0, 1), (2, 1, 0)), ((5, 5, 5), (0, 1, 2)), ((0, 1, 2, 3), (0, 0, 1, 1)), ((0, 1, 2, 3), (3, 3, 4, 0)),
    ((0, 0, 1, 1), (1, 1, 0, 0), (2, 2, 2, 9)), ((1, 1, 1, 1, 2), (0, 0, 0, 99, 0)), ((0, 0, 0, 0, 0, 1), (1, 1, 1, 0, 1, 1)),
]

# As many tables as are allowed, 5000: 5 times 10 times 10 times 10.
EXACT = ((0, 0, 0, 0, 1), (0, 0, 0, 1, 1), (0, 0, 0, 1, 1), (0, 0, 1, 1, 1))
# No told heaps have 5001 to 5183 tables; the first ones here have 5184, the last ones the most of all.
WIDE = [((0, 0, 0, 1),) + ((0, 0, 1, 1),) * 4, ((0, 1, 2, 3, 4, 5),) * 5]

LIMITED = (
    all_tables, all_crowds, count_crowds, count_by_odds, crowds_by_odds, most_quarrels, count_sources, count_deeds,
    longest_row, meet_chance,
)


class Examples(unittest.TestCase):

    def test_examples(self):
        some = ((0, 1), (0, 1))
        self.assertEqual(count_tables(some), 4)
        self.assertEqual(len(all_tables(some)), 4)
        self.assertEqual(all_crowds(some), [((1, 0), (0, 1)), ((1, 1), (0, 0))])
        self.assertEqual(count_crowds(some), 2)
        self.assertEqual(count_by_odds(some), (2, 2))
        self.assertEqual(crowds_by_odds(some), (1, 1))
        self.assertEqual(most_quarrels(some), (1, ((1, 0), (0, 1))))
        self.assertEqual(count_sources(some), 1)
        self.assertEqual(count_deeds(some), 1)
        self.assertEqual(longest_row(some), 1)
        self.assertEqual(odds_chance(some), (1, 2))
        self.assertEqual(mean_odds(((0, 1, 2), (0, 1, 2))), (3, 2))
        self.assertEqual(top_chance(some), (1, 4))
        self.assertEqual(tower_chance(some), (1, 2))
        self.assertEqual(meet_chance(some), (1, 2))


class PlainAnswers(unittest.TestCase):

    def each(self, check):
        for heaps in SMALL:
            with self.subTest(heaps=heaps):
                check(heaps)

    def test_tables(self):
        def check(heaps):
            tables = plain.tables_of(heaps)
            self.assertEqual(all_tables(heaps), tables)
            self.assertEqual(count_tables(heaps), len(tables))
            self.assertEqual(count_by_odds(heaps), plain.counted(len(plain.odds_of(table)) for table in tables))
        self.each(check)

    def test_crowds(self):
        def check(heaps):
            crowds = plain.crowds_of(heaps)
            counts = [len(plain.odds_of(told)) for told in crowds]
            self.assertEqual(all_crowds(heaps), crowds)
            self.assertEqual(count_crowds(heaps), len(crowds))
            self.assertEqual(crowds_by_odds(heaps), plain.counted(counts))
            self.assertEqual(most_quarrels(heaps), (max(counts), crowds[counts.index(max(counts))]))
        self.each(check)

    def test_deeds(self):
        def check(heaps):
            crowds = plain.crowds_of(heaps)
            made = [later for told in crowds for later in plain.deeds(told)]
            self.assertEqual(count_deeds(heaps), len(made))
            self.assertEqual(count_sources(heaps), len([told for told in crowds if told not in made]))
            if len(crowds) < 30:
                self.assertEqual(longest_row(heaps), max(len(path) - 1 for told in crowds for path in plain.paths(told)))
        self.each(check)

    def test_chances(self):
        def check(heaps):
            many = len(heaps[0])
            if many > 4:
                drawn = plain.tables_of(heaps)
            else:
                drawn = plain.drawn(heaps)
            tower = plain.tower(drawn[0])
            odds = plain.chance(drawn, lambda table: many > 1 and plain.odds(table[0], table[-1]))
            self.assertEqual(odds_chance(heaps), odds)
            mean = Fraction(sum(len(plain.odds_of(table)) for table in drawn), len(drawn))
            self.assertEqual(mean_odds(heaps), plain.as_pair(mean))
            top = plain.chance(drawn, lambda table: all(plain.over(table[-1], row) for row in table))
            self.assertEqual(top_chance(heaps), top)
            self.assertEqual(tower_chance(heaps), plain.chance(drawn, lambda table: plain.crowd(table) == tower))
            self.assertEqual(tower_chance(heaps), plain.chance(drawn, lambda table: not plain.odds_of(table)))
        self.each(check)

    def test_meet_chance(self):
        def check(heaps):
            crowds = [plain.crowd(table) for table in plain.tables_of(heaps)]
            same = sum(crowds.count(told) ** 2 for told in set(crowds))
            self.assertEqual(meet_chance(heaps), plain.as_pair(Fraction(same, len(crowds) ** 2)))
        self.each(check)

    def test_the_order_of_told_heaps_does_not_count(self):
        one, other = ((0, 1, 2), (3, 0, 0)), ((2, 0, 1), (0, 0, 3))
        for told in (*LIMITED, count_tables, odds_chance, mean_odds, top_chance, tower_chance):
            self.assertEqual(told(one), told(other))


class Edges(unittest.TestCase):

    def test_one_person(self):
        heaps = ((0,), (99,))
        table = ((0, 99),)
        self.assertEqual((count_tables(heaps), all_tables(heaps), all_crowds(heaps)), (1, [table], [table]))
        self.assertEqual((count_by_odds(heaps), crowds_by_odds(heaps), most_quarrels(heaps)), ((1,), (1,), (0, table)))
        self.assertEqual((count_sources(heaps), count_deeds(heaps), longest_row(heaps)), (1, 0, 0))
        self.assertEqual((odds_chance(heaps), mean_odds(heaps), meet_chance(heaps)), ((0, 1), (0, 1), (1, 1)))
        self.assertEqual((top_chance(heaps), tower_chance(heaps)), ((1, 1), (1, 1)))

    def test_one_good(self):
        heaps = ((0, 1, 2, 3, 4, 5),)
        self.assertEqual((count_tables(heaps), count_crowds(heaps), count_by_odds(heaps)), (720, 1, (720,)))
        self.assertEqual((odds_chance(heaps), mean_odds(heaps)), ((0, 1), (0, 1)))
        self.assertEqual((top_chance(heaps), tower_chance(heaps), meet_chance(heaps)), ((1, 6), (1, 1), (1, 1)))

    def test_all_alike(self):
        heaps = ((7, 7, 7, 7, 7, 7),) * 5
        table = ((7,) * 5,) * 6
        self.assertEqual((count_tables(heaps), all_tables(heaps), all_crowds(heaps)), (1, [table], [table]))
        self.assertEqual((top_chance(heaps), tower_chance(heaps), odds_chance(heaps)), ((1, 1), (1, 1), (0, 1)))

    def test_two_people_with_five_goods(self):
        heaps = ((0, 99),) * 5
        self.assertEqual((count_tables(heaps), count_crowds(heaps), count_by_odds(heaps)), (32, 16, (2, 30)))
        self.assertEqual((count_sources(heaps), longest_row(heaps), odds_chance(heaps)), (15, 1, (15, 16)))

    def test_chances_of_many_tables(self):
        heaps = WIDE[1]
        self.assertEqual(count_tables(heaps), 720 ** 5)
        self.assertEqual(odds_chance(heaps), (15, 16))
        self.assertEqual(mean_odds(heaps), (225, 16))
        self.assertEqual(top_chance(heaps), (1, 6 ** 5))
        self.assertEqual(tower_chance(heaps), (1, 720 ** 4))
        # At odds if the lone heap of the one good is with one of both people, that of the other good with the other.
        self.assertEqual(odds_chance(((1, 1, 1, 1, 1, 0),) * 2), (1, 18))

    def test_a_row_of_deeds(self):
        self.assertEqual(longest_row(((0, 1, 2), (0, 1, 2))), 3)
        self.assertEqual(longest_row(((0, 1, 2, 3), (0, 1, 2, 3))), 6)


class HowMany(HowManyCase):

    def test_as_many_as_are_allowed(self):
        self.assertEqual(count_tables(EXACT), 5000)
        tables = all_tables(EXACT)
        self.assertEqual((len(tables), tables), (5000, sorted(set(tables))))
        crowds = all_crowds(EXACT)
        self.assertEqual(crowds, sorted({plain.crowd(table) for table in tables}))
        self.assertEqual(count_crowds(EXACT), len(crowds))
        self.assertEqual((sum(count_by_odds(EXACT)), sum(crowds_by_odds(EXACT))), (5000, len(crowds)))
        self.assertEqual(most_quarrels(EXACT)[0], len(count_by_odds(EXACT)) - 1)
        self.assertEqual(count_deeds(EXACT), sum(len(plain.deeds(told)) for told in crowds))
        self.assertLess(count_sources(EXACT), len(crowds))
        self.assertLess(longest_row(EXACT), len(crowds))
        told = [plain.crowd(table) for table in tables]
        same = sum(told.count(one) ** 2 for one in crowds)
        self.assertEqual(meet_chance(EXACT), plain.as_pair(Fraction(same, 5000 ** 2)))

    def test_more(self):
        self.assertEqual([count_tables(heaps) for heaps in WIDE], [5184, 720 ** 5])
        for heaps in WIDE:
            for told in LIMITED:
                self.too_many(told, heaps, most=5000)
            for told in (odds_chance, mean_odds, top_chance, tower_chance):
                self.assertEqual(len(told(heaps)), 2)

    def test_the_number_of_tables_counts_not_that_of_crowds(self):
        heaps = ((0, 1, 2, 3, 4, 5), (0, 0, 0, 0, 1, 1))
        self.assertEqual(count_tables(heaps), 10800)
        for told in LIMITED:
            self.too_many(told, heaps, most=5000)


if __name__ == "__main__":
    unittest.main()
