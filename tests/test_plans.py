"""Point 14: plans, in which pairs meet, and those at odds lay."""

import unittest
from itertools import permutations, product

from laytogether.crowds import crowd, tower
from laytogether.errors import BadLays, BadPerson, BadTable
from laytogether.plans import (
    all_meet, deeds_done, ends_at_tower, host, host_has_top, meetings_needed, met, reach,
)
from tests import plain
from tests.inputs import EXACT, ODD, TOLD, WIDE

TABLES = plain.small_tables() + plain.three_by_two() + plain.more_tables()
MANY = [EXACT, WIDE, tuple((99, 0, k, 5 - k, 7) for k in range(6))]

ON_PAIRS = (met, deeds_done, ends_at_tower)


def plain_met(table, pairs):
    """The table behind pairs, and how many of them lay."""
    count = 0
    for one, other in pairs:
        if plain.odds(table[one], table[other]):
            table = plain.lay(table, one, other)
            count += 1
    return table, count


def all_pairs(table):
    people = range(len(table))
    return sorted((one, other) for one in people for other in people if one < other)


def some_plans(table):
    """Plans of up to three pairs, and some long ones."""
    pairs = list(permutations(range(len(table)), 2))
    plans = [plan for many in range(3) for plan in product(pairs, repeat=many)]
    plans += list(product(pairs, repeat=3))[::7]
    return plans + [tuple(pairs), tuple(pairs[::-1]), tuple((pairs * 60)[:60])]


class Examples(unittest.TestCase):

    def test_examples(self):
        self.assertEqual(met(TOLD, ((0, 1), (2, 0))), ((0, 2), (1, 1), (3, 4)))
        self.assertEqual(deeds_done(TOLD, ((0, 1), (0, 1))), 1)
        self.assertIs(ends_at_tower(TOLD, ((0, 2),)), True)
        self.assertEqual((all_meet(TOLD), meetings_needed(TOLD)), (((3, 4), (1, 2), (0, 1)), 1))
        self.assertEqual(host(TOLD, 1), ((1, 1), (3, 4), (0, 2)))
        self.assertIs(host_has_top(TOLD, 1), True)
        self.assertEqual(reach(TOLD, (0, 2)), (3, 4))


class PlainAnswers(unittest.TestCase):

    def test_plans(self):
        for table in plain.all_tables(2, 2, 1) + plain.three_by_two() + plain.more_tables():
            for plan in some_plans(table):
                with self.subTest(table=table, plan=plan):
                    behind, count = plain_met(table, plan)
                    self.assertEqual((met(table, plan), deeds_done(table, plan)), (behind, count))
                    self.assertIs(ends_at_tower(table, plan), plain.crowd(behind) == plain.tower(table))

    def test_all_meet(self):
        for table in TABLES + MANY:
            now, times = table, 0
            self.assertEqual(all_meet(table), plain_met(table, all_pairs(table))[0])
            while plain.odds_of(now):
                now, times = plain_met(now, all_pairs(table))[0], times + 1
            self.assertEqual(meetings_needed(table), times)

    def test_hosts(self):
        for table in TABLES + MANY:
            for person in range(len(table)):
                others = [other for other in range(len(table)) if other != person]
                behind, _ = plain_met(table, [(person, other) for other in others])
                self.assertEqual(host(table, person), behind)
                self.assertIs(host_has_top(table, person), behind[person] == plain.tower(table)[0])

    def test_reach(self):
        for table in TABLES:
            for lot in plain.subsets(range(len(table)))[1:]:
                row = tuple(max(table[person][good] for person in lot) for good in range(len(table[0])))
                self.assertEqual(reach(table, lot), row)
                self.assertEqual(reach(table, lot[::-1]), row)

    def test_a_host_who_meets_nobody_over_them_has_the_top_row(self):
        found = {host_has_top(table, person) for table in TABLES for person in range(len(table))}
        self.assertEqual(found, {True, False})


class Edges(unittest.TestCase):

    def test_one_person(self):
        table = ((0, 99),)
        self.assertEqual((met(table, ()), deeds_done(table, ()), all_meet(table)), (table, 0, table))
        self.assertIs(ends_at_tower(table, ()), True)
        self.assertEqual((meetings_needed(table), host(table, 0), reach(table, (0,))), (0, table, (0, 99)))
        self.assertIs(host_has_top(table, 0), True)
        for told in ON_PAIRS:
            self.assertRaises(BadLays, told, table, ((0, 0),))

    def test_no_pairs_and_sixty(self):
        self.assertEqual((met(TOLD, ()), deeds_done(TOLD, ())), (TOLD, 0))
        self.assertIs(ends_at_tower(TOLD, ()), False)
        self.assertIs(ends_at_tower(tower(TOLD)[::-1], ()), True)
        pairs = ((2, 1), (1, 2)) * 30
        self.assertEqual((met(TOLD, pairs), deeds_done(TOLD, pairs)), (((3, 1), (0, 2), (1, 4)), 1))
        for told in ON_PAIRS:
            with self.assertRaises(BadLays) as caught:
                told(TOLD, pairs + ((0, 1),))
            self.assertIsNone(caught.exception.index)
            with self.assertRaises(BadLays) as caught:
                told(TOLD, ((0, 1), (0, 3)))
            self.assertEqual(caught.exception.index, 1)

    def test_who_is_over_does_nothing(self):
        table = ((1, 1), (2, 2))
        self.assertEqual((met(table, ((0, 1), (1, 0))), deeds_done(table, ((0, 1), (1, 0)))), (table, 0))
        self.assertEqual((all_meet(table), meetings_needed(table)), (table, 0))
        self.assertEqual(host(table, 0), table)
        self.assertEqual([host_has_top(table, person) for person in (0, 1)], [False, True])

    def test_the_rows_of_the_tower_in_any_order(self):
        table = ((3, 1), (0, 4))
        self.assertEqual(met(table, ((1, 0),)), ((0, 1), (3, 4)))
        self.assertIs(ends_at_tower(table, ((1, 0),)), True)

    def test_equal_rows(self):
        table = ((4, 4), (9, 9), (4, 4))
        self.assertEqual((all_meet(table), meetings_needed(table)), (table, 0))
        self.assertEqual([host_has_top(table, person) for person in range(3)], [False, True, False])
        self.assertEqual([host_has_top(((7, 7),) * 6, person) for person in range(6)], [True] * 6)
        table = ((1, 0), (0, 1), (1, 0), (0, 1))
        self.assertEqual(all_meet(table), plain_met(table, all_pairs(table))[0])

    def test_one_good(self):
        table = ((0,), (99,), (5,), (5,), (1,), (0,))
        self.assertEqual((all_meet(table), meetings_needed(table), host(table, 2)), (table, 0, table))
        self.assertEqual((reach(table, (0, 2)), reach(table, (0, 1, 2, 3, 4, 5))), ((5,), (99,)))

    def test_meeting_more_than_once(self):
        needed = {meetings_needed(table) for table in TABLES + MANY}
        self.assertLessEqual({0, 1, 2}, needed)

    def test_six_people_and_five_goods(self):
        for table in MANY:
            now = table
            for _ in range(meetings_needed(table)):
                self.assertNotEqual(crowd(now), tower(table))
                now = all_meet(now)
            self.assertEqual(crowd(now), tower(table))
            self.assertEqual(reach(table, (0, 1, 2, 3, 4, 5)), tower(table)[0])
            self.assertEqual(reach(table, (5,)), table[5])

    def test_lots(self):
        self.assertEqual(reach(TOLD, (2, 0, 2)), (3, 4))
        self.assertEqual(reach(TOLD, (1,) * 100), (1, 2))
        wrong = ODD + [(), 0, 1, [0], [0, 1], {0: True}, "0", (3,), (-1,), (0, 3), (0, None), (0, "1"), ((0,), 1)]
        for lot in wrong + [(0, True), (False,), (True,), (0, [1]), (0, {}), (10 ** 40,), ((0, 1),)]:
            self.assertIsNone(reach(TOLD, lot), lot)
            self.assertRaises(BadTable, reach, None, lot)

    def test_wrong_people(self):
        for told in (host, host_has_top):
            for person in (-1, 3, None, True, False, "0", (0,), [0], {}):
                self.assertRaises(BadPerson, told, TOLD, person)


if __name__ == "__main__":
    unittest.main()
