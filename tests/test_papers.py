"""Point 8: crowds written down, each a deed from the one before."""

import unittest
from itertools import product

from laytogether.crowds import come_together, crowd, is_deed, tower
from laytogether.papers import (
    first_wrong, more_counts, over_and_back, pairs_written, shows_over_and_back, shows_to_tower, to_tower,
)
from tests import plain
from tests.inputs import ODD, TOLD, WIDE

TABLES = plain.small_tables() + plain.three_by_two() + plain.more_tables()
LOTS = [((0, 1, 2), (0, 1, 2)), ((0, 1, 1), (0, 0, 1), (0, 1, 2)), ((0, 1), (3, 3), (2, 5))]
SPREAD = tuple((99, 0, k, 5 - k, 7) for k in range(6))

ONE, OTHER = ((3, 1), (0, 4)), ((3, 4), (0, 1))


def plain_pairs(table):
    """The pairs of rows that lay together, and the crowds that they make."""
    now, pairs, crowds = plain.crowd(table), [], [plain.crowd(table)]
    while plain.odds_of(now):
        one, other = min(plain.odds_of(now))
        pairs.append((max(now[one], now[other]), min(now[one], now[other])))
        now = plain.deed(now, one, other)
        crowds.append(now)
    return tuple(pairs), tuple(crowds)


def plain_wrong(value):
    """What first_wrong is to tell of a tuple of values that are crowds, or plainly are none."""
    for index, thing in enumerate(value):
        if not isinstance(thing, tuple) or thing != plain.crowd(thing):
            return index
        if index and thing not in plain.deeds(value[index - 1]):
            return index
    return None


def neighbors(told, lot):
    """The crowds of a lot that are a deed from a crowd, or the crowd a deed from them."""
    return [other for other in plain.crowds_of(lot) if other in plain.deeds(told) or told in plain.deeds(other)]


class Examples(unittest.TestCase):

    def test_examples(self):
        self.assertEqual(to_tower(ONE), (ONE, OTHER))
        self.assertIs(shows_to_tower(ONE, (ONE,)), False)
        self.assertEqual(pairs_written(ONE), (((3, 1), (0, 4)),))
        self.assertIsNone(over_and_back(ONE, ((3, 2), (0, 4))))
        self.assertIs(shows_over_and_back(ONE, ONE, (ONE,)), True)
        self.assertEqual(first_wrong((ONE, OTHER, ONE)), 2)
        self.assertEqual(more_counts(ONE), ((0, 1), (1, 0)))


class PlainAnswers(unittest.TestCase):

    def each(self, check):
        for table in TABLES:
            with self.subTest(table=table):
                check(table)

    def test_to_tower(self):
        def check(table):
            told = to_tower(table)
            self.assertIs(type(told), tuple)
            self.assertIs(shows_to_tower(table, told), True)
            for path in plain.paths(plain.crowd(table)):
                self.assertIs(shows_to_tower(table, path), path[-1] == plain.tower(table))
                self.assertIs(shows_to_tower(table[::-1], path), path[-1] == plain.tower(table))
            self.assertIn(told, plain.paths(plain.crowd(table)))
        self.each(check)

    def test_pairs_written(self):
        def check(table):
            pairs, crowds = plain_pairs(table)
            self.assertEqual(pairs_written(table), pairs)
            self.assertEqual(pairs_written(table[::-1]), pairs)
            self.assertIs(shows_to_tower(table, crowds), True)
            self.assertTrue(all(one > other and plain.odds(one, other) for one, other in pairs))
        self.each(check)

    def test_over_and_back(self):
        for lot in LOTS:
            crowds = plain.crowds_of(lot)
            for one, other in product(crowds, crowds):
                told = over_and_back(one[::-1], other)
                self.assertEqual((told[0], told[-1]), (one, other))
                for before, later in zip(told, told[1:]):
                    self.assertTrue(later in plain.deeds(before) or before in plain.deeds(later))
                self.assertIs(shows_over_and_back(one, other[::-1], told), True)
                self.assertIs(shows_over_and_back(one, other, None), False)

    def test_shows_over_and_back(self):
        for lot in LOTS:
            crowds = plain.crowds_of(lot)
            for one, middle, other in product(crowds, crowds, crowds):
                right = middle in neighbors(one, lot) and other in neighbors(middle, lot)
                self.assertIs(shows_over_and_back(one, other, (one, middle, other)), right)
                self.assertIs(shows_over_and_back(one, other, (one, other)), other in neighbors(one, lot))
                self.assertIs(shows_over_and_back(one, middle, (one, middle, other)), right and middle == other)

    def test_tables_that_do_not_come_together(self):
        tables = plain.all_tables(2, 2, 1) + plain.all_tables(1, 2, 1) + plain.all_tables(2, 1, 1)
        for one, other in product(tables, tables):
            if come_together(one, other):
                self.assertIs(shows_over_and_back(one, other, over_and_back(one, other)), True)
                self.assertIs(shows_over_and_back(one, other, None), False)
            else:
                self.assertIsNone(over_and_back(one, other))
                self.assertIs(shows_over_and_back(one, other, None), True)
                self.assertIs(shows_over_and_back(one, other, (crowd(one), crowd(other))), False)
                self.assertIs(shows_over_and_back(one, other, (crowd(one), tower(one), crowd(other))), False)

    def test_first_wrong(self):
        things = plain.crowds_of(((0, 1, 2), (0, 1, 2))) + [((0, 1), (1, 0), (2, 2)), ((1, 1),), ((7,), (8,)), None]
        for many in (1, 2, 3):
            for value in product(things, repeat=many):
                self.assertEqual(first_wrong(value), plain_wrong(value), value)
        for table in plain.more_tables():
            for path in plain.paths(plain.crowd(table))[::7]:
                self.assertIsNone(first_wrong(path))
                self.assertEqual(first_wrong(path + (path[-1],)), len(path))
                self.assertEqual(first_wrong((path[0][::-1],) + path[1:]), plain_wrong((path[0][::-1],) + path[1:]))

    def test_more_counts(self):
        def check(table):
            found = []
            for row in table:
                found.append(tuple(
                    sum(1 for other in table if other[good] > heap) for good, heap in enumerate(row)
                ))
            self.assertEqual(more_counts(table), tuple(found))
        self.each(check)


class Edges(unittest.TestCase):

    def check_tower(self, table):
        own = crowd(table)
        self.assertEqual((to_tower(table), pairs_written(table)), ((own,), ()))
        self.assertIs(shows_to_tower(table, (own,)), True)
        self.assertIs(shows_to_tower(table, (own, own)), False)
        self.assertIs(shows_to_tower(table, ()), False)
        self.assertIs(shows_over_and_back(table, table, over_and_back(table, table)), True)
        self.assertIs(shows_over_and_back(table, table, (own,)), True)
        self.assertIs(shows_over_and_back(table, table, (own, own)), False)
        self.assertIs(shows_over_and_back(table, table, ()), False)
        self.assertIsNone(first_wrong((own,)))

    def test_towers(self):
        self.check_tower(((0, 99),))
        self.check_tower(((1,), (5,), (0,), (1,), (99,), (5,)))
        self.check_tower(((4, 4), (9, 9), (4, 4)))
        self.check_tower(tower(WIDE))

    def test_one_person(self):
        self.assertEqual(more_counts(((0, 99, 3, 3, 0),)), ((0,) * 5,))
        self.assertIsNone(over_and_back(((0, 99),), ((0, 98),)))
        self.assertIs(shows_over_and_back(((0, 99),), ((0, 98),), None), True)

    def test_six_people_and_five_goods(self):
        for table in (WIDE, SPREAD):
            told = to_tower(table)
            self.assertEqual((told[0], told[-1]), (crowd(table), tower(table)))
            self.assertTrue(all(is_deed(before, later) for before, later in zip(told, told[1:])))
            self.assertIs(shows_to_tower(table, told), True)
            self.assertIs(shows_to_tower(table, told[:-1]), False)
            self.assertIs(shows_to_tower(table, told[1:]), False)
            self.assertIs(shows_to_tower(table, told[:1] + told[2:]), is_deed(told[0], told[2]))
            self.assertEqual(pairs_written(table), plain_pairs(table)[0])
            there = over_and_back(table, tower(table))
            self.assertIs(shows_over_and_back(table, tower(table), there), True)
            self.assertIs(shows_over_and_back(tower(table), table, there[::-1]), True)
            self.assertIs(shows_over_and_back(table, table, told + told[-2::-1]), True)
        self.assertEqual(more_counts(SPREAD), tuple((0, 0, 5 - k, k, 0) for k in range(6)))
        self.assertEqual(len(pairs_written(((1, 0), (0, 1)) * 3)), len(to_tower(((1, 0), (0, 1)) * 3)) - 1)

    def test_equal_rows(self):
        table = ((1, 0), (0, 1), (1, 0), (0, 1))
        # Behind the first deed the places are told anew: (1, 1) stands first then.
        self.assertEqual(pairs_written(table), (((1, 0), (0, 1)), ((1, 0), (0, 1))))
        self.assertEqual(to_tower(table)[1], ((1, 1), (1, 0), (0, 1), (0, 0)))
        self.assertEqual(more_counts(table), ((0, 2), (2, 0), (0, 2), (2, 0)))

    def test_tables_that_are_not_like(self):
        for other in (ONE[:1], ((3,), (0,)), ((3, 1, 0), (0, 4, 0))):
            self.assertIsNone(over_and_back(ONE, other))
            self.assertIs(shows_over_and_back(ONE, other, None), True)
            for value in ODD[1:] + [(ONE,), (ONE, crowd(other)), (crowd(other),)]:
                self.assertIs(shows_over_and_back(ONE, other, value), False, value)

    def test_a_way_may_be_long(self):
        there = (ONE, OTHER) * 3000
        self.assertIs(shows_over_and_back(ONE, OTHER, there), True)
        self.assertIs(shows_over_and_back(ONE, ONE, there + (ONE,)), True)
        self.assertIs(shows_over_and_back(ONE, OTHER, there + (OTHER,)), False)
        self.assertIs(shows_to_tower(ONE, there), False)
        self.assertEqual(first_wrong(there), 2)


class ValuesOfAllKinds(unittest.TestCase):

    WRONG = ODD + [
        5, (OTHER, ONE), [ONE, OTHER], (ONE, list(OTHER)), (ONE[::-1], OTHER), (ONE, OTHER[::-1]), (ONE, None),
        (None, OTHER), (ONE, "x"), (ONE, ()), (ONE, {}), (ONE, 5), (ONE, (3, 4)), (ONE, ONE, OTHER),
        (ONE, OTHER, OTHER), (ONE, True, OTHER), (ONE, [OTHER], OTHER), {0: ONE, 1: OTHER},
        (ONE, ((100, 4), (0, 1))),
    ]

    def test_shows(self):
        for value in self.WRONG:
            self.assertIs(shows_to_tower(ONE, value), False, value)
            self.assertIs(shows_over_and_back(ONE, OTHER, value), False, value)
        for value in ((ONE, OTHER),):
            self.assertIs(shows_to_tower(ONE, value), True)
            self.assertIs(shows_over_and_back(ONE, OTHER, value), True)
        # Taken back, and done again.
        self.assertIs(shows_to_tower(ONE, (ONE, OTHER, ONE, OTHER)), False)
        self.assertIs(shows_over_and_back(ONE, OTHER, (ONE, OTHER, ONE, OTHER)), True)

    def test_a_table_that_is_no_crowd_is_not_passed_through(self):
        for value in ((ONE, OTHER[::-1], ONE), (ONE, OTHER, ONE[::-1], OTHER, ONE)):
            self.assertIs(shows_over_and_back(ONE, ONE, value), False, value)
        self.assertIs(shows_over_and_back(OTHER, OTHER, (OTHER, ONE[::-1], OTHER)), False)

    def test_true_and_false_are_no_heaps(self):
        one, other = ((1, 0), (0, 1)), ((1, 1), (0, 0))
        odd, odd_end = ((True, False), (False, True)), ((1, 1), (0, False))
        self.assertIs(shows_to_tower(one, (one, other)), True)
        for value in ((odd, other), (one, odd_end)):
            self.assertIs(shows_to_tower(one, value), False)
            self.assertIs(shows_over_and_back(one, other, value), False)
        self.assertEqual([first_wrong((odd, other)), first_wrong((one, odd_end))], [0, 1])

    def test_first_wrong(self):
        for value in [None, True, False, "", "x", 0, 5, [], [ONE], [ONE, OTHER], {}, {0: ONE}, ()]:
            self.assertEqual(first_wrong(value), 0, value)
        for thing in ODD + [(), 5, ONE[::-1], [ONE], list(ONE), ((3, 1), [0, 4]), ((100,),), ((-1,),), ((1,),) * 7]:
            self.assertEqual(first_wrong((thing, ONE)), 0, thing)
            self.assertEqual(first_wrong((ONE, thing, ONE)), 1, thing)
            self.assertEqual(first_wrong((ONE, OTHER, thing)), 2, thing)
        self.assertEqual(first_wrong((ONE, ((2, 2), (2, 1)), None)), 1)
        self.assertEqual(first_wrong((ONE, ((3,), (0,)))), 1)
        self.assertEqual(first_wrong((OTHER, ONE)), 1)
        self.assertIsNone(first_wrong((ONE,)))
        self.assertIsNone(first_wrong((((0,) * 5,) * 6,)))
        self.assertIsNone(first_wrong(to_tower(TOLD)))
        self.assertIsNone(first_wrong(to_tower(WIDE)))


if __name__ == "__main__":
    unittest.main()
