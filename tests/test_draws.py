"""Point 18: drawn deeds."""

import unittest
from fractions import Fraction
from math import gcd

from laytogether.crowds import all_met, crowd, most_deeds, next_crowds, tower
from laytogether.draws import after, come_chance, deeds_chances, likeliest_last, mean_deeds, mean_draws, mean_pairs_met
from laytogether.errors import BadNumber, NotLike
from tests import plain
from tests.cases import HowManyCase
from tests.inputs import EXACT, ONE_MORE, TOLD, WIDE

TABLES = plain.small_tables() + plain.three_by_two() + plain.more_tables()
MEANS = (mean_deeds, mean_draws, mean_pairs_met)
ON_ONE = (*MEANS, deeds_chances, likeliest_last)


def total(table, counts):
    """The sum of the chances of all ways to draw, each as often as counts tells of the crowds come through."""
    return plain.as_pair(sum((chance * counts(met) for chance, met in plain.draws(table)), Fraction(0)))


def pairs_at_odds(met):
    return [len(plain.odds_of(told)) for told in met]


def count_pairs(table):
    return len(table) * (len(table) - 1) // 2


class Examples(unittest.TestCase):

    def test_examples(self):
        self.assertEqual(come_chance(TOLD, ((3, 2), (1, 1), (0, 4))), (1, 3))
        self.assertEqual(after(((3, 1), (0, 4)), 3), [(((3, 4), (0, 1)), (1, 1))])
        self.assertEqual(mean_deeds(TOLD), (7, 3))
        self.assertEqual(deeds_chances(TOLD), ((0, 1), (1, 3), (0, 1), (2, 3)))
        self.assertEqual(mean_draws(TOLD), (4, 1))
        self.assertEqual(mean_pairs_met(TOLD), (5, 1))
        self.assertEqual(likeliest_last(TOLD), ((1, 3), ((3, 1), (1, 2), (0, 4))))


class PlainAnswers(unittest.TestCase):

    def each(self, check):
        for table in TABLES:
            with self.subTest(table=table):
                check(table)

    def test_chances_to_come(self):
        def check(table):
            for other in plain.crowds_like(table)[:40] + all_met(table):
                self.assertEqual(come_chance(table, other), total(table, lambda met: other in met))
                self.assertEqual(come_chance(table[::-1], other[::-1]), come_chance(table, other))
        self.each(check)

    def test_after(self):
        def check(table):
            for deeds in range(8):
                found = {}
                for chance, met in plain.draws(table):
                    behind = met[min(deeds, len(met) - 1)]
                    found[behind] = found.get(behind, 0) + chance
                told = [(behind, plain.as_pair(chance)) for behind, chance in sorted(found.items())]
                self.assertEqual(after(table, deeds), told)
                self.assertEqual(after(table[::-1], deeds), told)
        self.each(check)

    def test_means(self):
        def check(table):
            self.assertEqual(mean_deeds(table), total(table, lambda met: len(met) - 1))
            self.assertEqual(mean_pairs_met(table), total(table, lambda met: sum(pairs_at_odds(met))))
            drawn = count_pairs(table)
            waits = total(table, lambda met: sum(Fraction(drawn, count) for count in pairs_at_odds(met)[:-1]))
            self.assertEqual(mean_draws(table), waits)
        self.each(check)

    def test_numbers_of_deeds(self):
        def check(table):
            most = max(len(met) - 1 for _, met in plain.draws(table))
            told = tuple(total(table, lambda met: len(met) - 1 == deeds) for deeds in range(most + 1))
            self.assertEqual(deeds_chances(table), told)
            self.assertEqual(most, most_deeds(table, tower(table)))
        self.each(check)

    def test_the_last_ahead_of_the_tower(self):
        def check(table):
            lasts = {}
            for chance, met in plain.draws(table):
                if len(met) > 1:
                    lasts[met[-2]] = lasts.get(met[-2], 0) + chance
            if not lasts:
                self.assertIsNone(likeliest_last(table))
                return
            most = max(lasts.values())
            least = min(told for told in lasts if lasts[told] == most)
            self.assertEqual(likeliest_last(table), (plain.as_pair(most), least))
        self.each(check)

    def test_means_of_many_people(self):
        for table in (EXACT, ((0, 4), (1, 3), (2, 2), (3, 1), (4, 0)), tuple((99, 0, k, 5 - k, 7) for k in range(6))):
            with self.subTest(table=table):
                drawn = count_pairs(table)
                self.check_mean(mean_deeds, table, lambda count: 1)
                self.check_mean(mean_pairs_met, table, lambda count: count)
                self.check_mean(mean_draws, table, lambda count: Fraction(drawn, count))

    def check_mean(self, mean, table, steps_at):
        self.assertEqual(mean(table), plain.as_pair(plain.mean_to_tower(crowd(table), steps_at)))


class Edges(unittest.TestCase):

    def test_one_person_and_one_good(self):
        for table in (((0, 99),), ((1,), (5,), (0,), (1,), (99,), (5,))):
            own = crowd(table)
            self.check_tower(table)
            other = own[:-1] + ((7,) * len(own[0]),)
            self.assertEqual(come_chance(table, other), (0, 1))
            self.assertEqual(after(table, 60), [(own, (1, 1))])

    def check_tower(self, table):
        own = crowd(table)
        self.assertEqual([mean(table) for mean in MEANS], [(0, 1)] * 3)
        self.assertEqual((deeds_chances(table), likeliest_last(table)), (((1, 1),), None))
        self.assertEqual((after(table, 0), after(table, 1)), ([(own, (1, 1))],) * 2)
        self.assertEqual(come_chance(table, table), (1, 1))

    def test_towers_of_many(self):
        self.check_tower(((4, 4), (9, 9), (4, 4)))
        self.check_tower(tower(WIDE))

    def test_equal_rows_are_drawn_as_often_as_they_are_there(self):
        table = ((1, 0), (1, 0), (0, 1))
        self.assertEqual(come_chance(table, next_crowds(table)[0]), (1, 1))
        table = ((2, 0), (0, 1), (1, 0), (1, 0))
        self.assertEqual(len(next_crowds(table)), 2)
        self.assertEqual([chance for _, chance in after(table, 1)], [(2, 3), (1, 3)])
        self.assertEqual([come_chance(table, told) for told in next_crowds(table)], [(2, 3), (1, 1)])

    def test_no_deeds_and_sixty(self):
        self.assertEqual(after(TOLD, 0), [(TOLD, (1, 1))])
        self.assertEqual(after(TOLD[::-1], 0), [(TOLD, (1, 1))])
        self.assertEqual(after(TOLD, 60), [(tower(TOLD), (1, 1))])
        self.assertEqual(after(EXACT, 60), [(tower(EXACT), (1, 1))])
        for deeds in (-1, 61):
            self.assertRaises(BadNumber, after, TOLD, deeds)

    def test_six_people_and_five_goods(self):
        table = tuple((99, 0, k, 5 - k, 7) for k in range(6))
        chances = [Fraction(*chance) for chance in deeds_chances(table)]
        self.assertEqual((len(chances), sum(chances)), (16, 1))
        self.assertEqual(chances[:3], [0, 0, 0])
        self.assertTrue(all(chances[3:16:2]))
        mean = sum(deeds * chance for deeds, chance in enumerate(chances))
        self.assertEqual(mean_deeds(table), plain.as_pair(mean))
        self.assertEqual(come_chance(table, tower(table)), (1, 1))
        for deeds in (1, 3, 14, 15):
            self.assertEqual(sum(Fraction(*chance) for _, chance in after(table, deeds)), 1)
        self.assertEqual(dict(after(table, 13))[tower(table)], plain.as_pair(sum(chances[:14])))

    def test_lowest_terms(self):
        for table in TABLES + [EXACT]:
            ratios = [mean(table) for mean in MEANS] + list(deeds_chances(table))
            ratios += [chance for _, chance in after(table, 2)] + [come_chance(table, tower(table))]
            ratios += [likeliest_last(table)[0]] if likeliest_last(table) else []
            for numerator, denominator in ratios:
                self.assertGreater(denominator, 0)
                self.assertEqual(gcd(numerator, denominator), 1)

    def test_tables_that_are_not_like(self):
        for other in (((3, 1), (1, 2)), ((3,), (1,), (0,)), WIDE):
            self.assertRaises(NotLike, come_chance, TOLD, other)
            self.assertRaises(NotLike, come_chance, other, TOLD)


class HowMany(HowManyCase):

    def test_as_many_as_are_allowed(self):
        self.assertEqual(come_chance(EXACT, tower(EXACT)), (1, 1))
        self.assertEqual(come_chance(EXACT, next_crowds(EXACT)[0])[0], 1)
        self.assertEqual(sum(Fraction(*chance) for chance in deeds_chances(EXACT)), 1)
        for told in ON_ONE:
            self.assertIsNotNone(told(EXACT))
        self.assertIn(tower(EXACT), next_crowds(likeliest_last(EXACT)[1]))

    def test_more(self):
        for table in (ONE_MORE, WIDE):
            for told in ON_ONE:
                self.too_many(told, table)
            self.too_many(come_chance, table, table)
            self.too_many(come_chance, table, tower(table))

    def test_only_what_is_made_of_the_first_table_counts(self):
        self.assertEqual(come_chance(tower(WIDE), WIDE), (0, 1))

    def test_after_is_never_too_much(self):
        for table in (ONE_MORE, WIDE):
            self.assertEqual([told for told, _ in after(table, 1)], next_crowds(table))
            self.assertEqual(after(table, 15), [(tower(table), (1, 1))])
        found = after(ONE_MORE, 9)
        self.assertEqual(sum(Fraction(*chance) for _, chance in found), 1)
        ahead = {crowd(WIDE)}
        for _ in range(3):
            ahead = {made for told in ahead for made in plain.deeds(told)}
        self.assertEqual([told for told, _ in after(WIDE, 3)], sorted(ahead))


if __name__ == "__main__":
    unittest.main()
