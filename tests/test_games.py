"""Point 27: two do deeds by turns."""

import unittest
from fractions import Fraction
from itertools import product
from math import gcd

from laytogether.crowds import crowd, is_deed, next_crowds, tower
from laytogether.errors import BadNumber
from laytogether.games import (
    best_play, both_games, deeds_left, first_chance, first_wins, game_length, shows_play, winning_next, worth,
)
from tests import plain
from tests.cases import HowManyCase
from tests.inputs import EXACT, ODD, ONE_MORE, TOLD, WIDE

TABLES = plain.small_tables() + plain.three_by_two() + plain.more_tables()
LOTS = [((0, 1, 2), (0, 1, 2)), ((0, 1, 1), (0, 0, 1), (0, 1, 2)), ((0, 1, 2, 3), (0, 0, 1, 1))]

ON_ONE = (worth, first_wins, winning_next, game_length, best_play, first_chance)


class Examples(unittest.TestCase):

    def test_examples(self):
        self.assertEqual((worth(TOLD), first_wins(TOLD)), (1, True))
        winning = [((3, 1), (1, 4), (0, 2)), ((3, 2), (1, 1), (0, 4)), ((3, 4), (1, 2), (0, 1))]
        self.assertEqual(winning_next(TOLD), winning)
        self.assertEqual((both_games(TOLD, TOLD), game_length(TOLD)), (False, 1))
        self.assertIs(shows_play(TOLD, best_play(TOLD)), True)
        self.assertEqual((first_chance(TOLD), deeds_left(TOLD, 1)), ((1, 1), True))


class PlainAnswers(unittest.TestCase):

    def each(self, check):
        for table in TABLES:
            with self.subTest(table=table):
                check(table, plain.crowd(table))

    def test_who_wins(self):
        def check(table, own):
            self.assertEqual(worth(table), plain.worth(own))
            self.assertIs(first_wins(table), plain.wins(own))
            self.assertEqual(winning_next(table), sorted(made for made in plain.deeds(own) if not plain.wins(made)))
        self.each(check)

    def test_both(self):
        crowds = [told for lot in LOTS for told in plain.crowds_of(lot)]
        worths = {worth(told) for told in crowds}
        self.assertTrue({0, 1, 2} <= worths)
        for one, other in product(crowds, crowds):
            self.assertIs(both_games(one, other), plain.wins_both(one, other))
            self.assertIs(both_games(one[::-1], other), both_games(other, one))

    def test_plays(self):
        def check(table, own):
            best = plain.best_plays(table)
            self.assertEqual({len(play) - 1 for play in best}, {game_length(table)})
            self.assertEqual(game_length(table), plain.length(own))
            self.assertIn(best_play(table), best)
            self.assertEqual(best_play(table), best_play(table[::-1]))
            for path in plain.paths(own):
                self.assertIs(shows_play(table, path), path in best)
        self.each(check)

    def test_drawn_deeds(self):
        def check(table, own):
            odd = sum((chance for chance, met in plain.draws(table) if len(met) in (2, 4, 6, 8)), Fraction(0))
            self.assertEqual(first_chance(table), plain.as_pair(odd))
            self.assertEqual(gcd(*first_chance(table)), 1)
        self.each(check)

    def test_deeds_left(self):
        def check(table, own):
            fewest = plain.fewest_left(own)
            self.assertEqual([deeds_left(table, most) for most in range(16)], [fewest <= most for most in range(16)])
        self.each(check)

    def test_many_people(self):
        for table in (((0, 4), (1, 3), (2, 2), (3, 1), (4, 0)), EXACT):
            own = crowd(table)
            self.assertEqual((worth(table), game_length(table)), (plain.worth(own), plain.length(own)))
            fewest = plain.fewest_left(own)
            self.assertEqual([deeds_left(table, most) for most in range(16)], [fewest <= most for most in range(16)])
            play = best_play(table)
            self.assertEqual((play[0], play[-1], len(play)), (own, tower(table), game_length(table) + 1))
            self.assertTrue(all(is_deed(before, later) for before, later in zip(play, play[1:])))
            self.assertIs(shows_play(table[::-1], play), True)
            self.assertIs(shows_play(table, play[:-1]), False)


class Edges(unittest.TestCase):

    def check_tower(self, table):
        own = crowd(table)
        self.assertEqual([told(table) for told in ON_ONE], [0, False, [], 0, (own,), (0, 1)])
        self.assertIs(both_games(table, table), False)
        self.assertIs(deeds_left(table, 0), True)
        self.assertIs(shows_play(table, (own,)), True)

    def test_towers(self):
        self.check_tower(((0, 99),))
        self.check_tower(((1,), (5,), (0,), (1,), (99,), (5,)))
        self.check_tower(((4, 4), (9, 9), (4, 4)))
        self.check_tower(tower(WIDE))

    def test_two_crowds_need_not_be_like(self):
        one, other = ((1, 0), (0, 1)), ((7,), (8,), (9,))
        self.assertIs(both_games(one, other), True)
        self.assertIs(both_games(other, one), True)
        self.assertIs(both_games(one, ((1, 0, 5), (0, 1, 5), (0, 0, 0))), False)
        self.assertIs(both_games(other, WIDE[:1]), False)

    def test_equal_rows(self):
        table = ((1, 0), (0, 1), (1, 0), (0, 1))
        self.assertEqual((worth(table), game_length(table), first_chance(table)), (0, 2, (0, 1)))
        self.assertEqual((winning_next(table), winning_next(next_crowds(table)[0])), ([], [tower(table)]))
        self.assertEqual([deeds_left(table, most) for most in (0, 1, 2, 15)], [False, False, True, True])

    def test_six_people(self):
        table = tuple((99, 0, k, 5 - k, 7) for k in range(6))
        self.assertEqual([deeds_left(table, most) for most in range(16)],
                         [plain.fewest_left(crowd(table)) <= most for most in range(16)])
        self.assertEqual((worth(table), game_length(table)), (plain.worth(crowd(table)), plain.length(crowd(table))))

    def test_wrong_numbers(self):
        for wrong in (-1, 16, None, True, False, "1", (1,)):
            self.assertRaises(BadNumber, deeds_left, TOLD, wrong)
            self.assertRaises(BadNumber, deeds_left, WIDE, wrong)


class HowMany(HowManyCase):

    def test_as_many_as_are_allowed(self):
        for told in ON_ONE:
            self.assertIsNotNone(told(EXACT))
        self.assertIs(both_games(EXACT, EXACT), False)
        self.assertIs(shows_play(EXACT, best_play(EXACT)), True)

    def test_more(self):
        for table in (ONE_MORE, WIDE):
            for told in ON_ONE:
                self.too_many(told, table)
            self.too_many(both_games, table, TOLD)
            self.too_many(both_games, TOLD, table)
            for value in (None, (crowd(table),), "x"):
                self.too_many(shows_play, table, value)

    def test_deeds_left_is_never_too_much(self):
        own = crowd(ONE_MORE)
        self.assertEqual([deeds_left(ONE_MORE, most) for most in range(16)],
                         [plain.fewest_left(own) <= most for most in range(16)])
        found = [deeds_left(WIDE, most) for most in (0, 1, 2, 3, 15)]
        self.assertEqual(found, [False, False, False, False, True])


class ShowsPlay(unittest.TestCase):

    def test_values_of_all_kinds(self):
        one, other = ((3, 1), (0, 4)), ((3, 4), (0, 1))
        values = ODD + [5, (one,), (other,), (one, one, other), (other, one), [one, other], (one, list(other))]
        values += [(one[::-1], other), (one, other[::-1]), (one, None), (None, other), (one, "x"), (one, ())]
        values += [(one, one), (one, 5), (5, other), (one, (3, 4))]
        for value in values:
            self.assertIs(shows_play(one, value), False, value)
        self.assertIs(shows_play(one, (one, other)), True)
        self.assertIs(shows_play(one[::-1], (one, other)), True)

    def test_true_and_false_are_no_heaps(self):
        one, other = ((1, 0), (0, 1)), ((1, 1), (0, 0))
        self.assertIs(shows_play(one, (one, other)), True)
        self.assertIs(shows_play(one, (((True, False), (False, True)), other)), False)
        self.assertIs(shows_play(one, (one, ((1, 1), (0, False)))), False)


if __name__ == "__main__":
    unittest.main()
