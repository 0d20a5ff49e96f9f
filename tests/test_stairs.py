"""Point 23, and best_pair of point 20: towers as stairs."""

import unittest
from itertools import permutations, product

from laytogether.crowds import crowd, tower
from laytogether.errors import BadRow, BadTable, NotOver
from laytogether.stairs import (
    best_pair, built, bumped, count_deeds_in, goes_through, is_tower_step, pushed_in, steps, tower_below,
)
from laytogether.tables import at_odds
from tests import plain
from tests.inputs import ODD, TOLD, WIDE, WRONG_ROWS

TABLES = plain.small_tables() + plain.three_by_two() + plain.more_tables()
SPREAD = tuple((99, 0, k, 5 - k, 7) for k in range(6))

ON_ROW = (is_tower_step, goes_through, pushed_in, count_deeds_in, bumped)


def towers():
    """Tables that are towers, in any order of their people."""
    found = [table for table in TABLES if not plain.odds_of(table)]
    found += [plain.tower(table) for table in plain.more_tables()]
    found += [tuple(rows) for rows in permutations(((5, 5), (5, 3), (2, 3), (0, 0)))][::5]
    return found


def some_rows(table):
    """All rows of small heaps, and some others, as those of a table."""
    many = len(table[0])
    small = list(product(range(3), repeat=many))
    return small[::1 + len(small) // 20] + [(0,) * many, (99,) * many, table[-1], table[0]]


def plain_through(table, row):
    """What a row becomes, the crowd behind it, and how many of its lays join rows at odds."""
    became, behind, deeds = [row], [], 0
    for other in sorted(table)[::-1]:
        deeds += plain.odds(other, row)
        (greater, row) = plain.lay((other, row), 0, 1)
        behind.append(greater)
        became.append(row)
    return became, tuple(sorted(behind + [row])[::-1]), deeds


def plain_best(table):
    """The least pair whose lay makes the greater row's sum pass both old ones by most."""
    found = []
    for one, other in permutations(range(len(table)), 2):
        made = sum(plain.lay(table, one, other)[one])
        passes = min(made - sum(table[one]), made - sum(table[other]))
        found.append((-passes, (one, other)))
    return min(found)[1] if found else None


class Examples(unittest.TestCase):

    def test_examples(self):
        base = ((3, 4), (1, 2), (0, 1))
        self.assertEqual(steps(base), ((2, 2), (1, 1)))
        self.assertIs(is_tower_step(base, (2, 3)), True)
        self.assertEqual(goes_through(base, (2, 0)), [(2, 0), (2, 0), (1, 0), (0, 0)])
        self.assertEqual(pushed_in(base, (2, 0)), ((3, 4), (2, 2), (1, 1), (0, 0)))
        self.assertEqual((bumped(base, (2, 0)), count_deeds_in(base, (2, 0))), ((1, 3), 2))
        self.assertEqual(built(((3, 1), (0, 4))), [((3, 1),), ((3, 4), (0, 1))])
        self.assertIs(tower_below(base, base[::-1]), True)
        self.assertEqual(best_pair(TOLD), (0, 2))


class PlainAnswers(unittest.TestCase):

    def test_steps(self):
        for table in towers():
            rows = sorted(table)[::-1]
            found = []
            for place in range(len(rows) - 1):
                found.append(tuple(rows[place][good] - rows[place + 1][good] for good in range(len(rows[0]))))
            self.assertEqual(steps(table), tuple(found))
            self.assertTrue(all(heap >= 0 for step in found for heap in step))

    def test_rows_that_go_through(self):
        for table in towers():
            for row in some_rows(table):
                with self.subTest(table=table, row=row):
                    became, behind, deeds = plain_through(table, row)
                    self.assertEqual(goes_through(table, row), became)
                    self.assertEqual((pushed_in(table, row), count_deeds_in(table, row)), (behind, deeds))
                    self.assertEqual(plain.odds_of(pushed_in(table, row)), [])
                    self.assertIs(is_tower_step(table, row), not plain.odds_of(table + (row,)))
                    counts = [sum(other[good] >= heap for other in table) for good, heap in enumerate(row)]
                    self.assertEqual(bumped(table, row), tuple(counts))

    def test_names_do_not_count(self):
        base = ((3, 4), (1, 2), (0, 1))
        for table in permutations(base):
            self.assertEqual(steps(table), steps(base))
            for row in product(range(5), repeat=2):
                self.assertEqual([told(table, row) for told in ON_ROW], [told(base, row) for told in ON_ROW])

    def test_built(self):
        for table in TABLES + [WIDE, SPREAD]:
            self.assertEqual(built(table), [plain.tower(table[:many + 1]) for many in range(len(table))])
            # Each tower is the one before with a row pushed in.
            for before, later, row in zip(built(table), built(table)[1:], table[1:]):
                self.assertEqual(pushed_in(before, row), later)

    def test_tower_below(self):
        tables = plain.all_tables(2, 2, 1) + plain.all_tables(1, 2, 1) + plain.all_tables(2, 1, 2)
        for one, other in product(tables, tables):
            like = len(one) == len(other) and len(one[0]) == len(other[0])
            below = like and all(plain.over(mine, yours) for mine, yours in zip(plain.tower(one), plain.tower(other)))
            self.assertIs(tower_below(one, other), below)
        for one, other in product(plain.three_by_two() + [TOLD], repeat=2):
            below = all(plain.over(mine, yours) for mine, yours in zip(plain.tower(one), plain.tower(other)))
            self.assertIs(tower_below(one, other), below)

    def test_best_pair(self):
        for table in TABLES + [WIDE, SPREAD] + plain.all_tables(3, 2, 2)[::5]:
            self.assertEqual(best_pair(table), plain_best(table))


class Edges(unittest.TestCase):

    def test_one_person(self):
        table = ((0, 99),)
        self.assertEqual((steps(table), built(table), best_pair(table)), ((), [table], None))
        self.assertEqual((goes_through(table, (99, 0)), count_deeds_in(table, (99, 0))), ([(99, 0), (0, 0)], 1))
        self.assertEqual(pushed_in(table, (99, 0)), ((99, 99), (0, 0)))
        self.assertEqual((bumped(table, (99, 0)), bumped(table, (0, 99))), ((0, 1), (1, 1)))
        self.assertEqual([is_tower_step(table, row) for row in ((99, 0), (0, 98), (0, 99), (5, 99))],
                         [False, True, True, True])
        self.assertIs(tower_below(table, table), True)

    def test_one_good(self):
        table = ((0,), (99,), (5,))
        self.assertEqual((steps(table), built(table)), (((94,), (5,)), [((0,),), ((99,), (0,)), ((99,), (5,), (0,))]))
        self.assertEqual((goes_through(table, (7,)), count_deeds_in(table, (7,))), ([(7,), (7,), (5,), (0,)], 0))
        self.assertEqual((pushed_in(table, (7,)), bumped(table, (5,))), (((99,), (7,), (5,), (0,)), (2,)))
        self.assertEqual(best_pair(table), (0, 1))

    def test_six_people_make_seven_rows(self):
        for table in (tower(WIDE), tower(SPREAD), ((7, 7),) * 6, ((3,), (2,), (2,), (1,), (0,), (99,))):
            for row in (table[2], (0,) * len(table[0]), (99,) * len(table[0]), tuple(range(len(table[0])))):
                became, behind, deeds = plain_through(table, row)
                self.assertEqual((pushed_in(table, row), len(behind)), (behind, 7))
                self.assertEqual((goes_through(table, row), len(became)), (became, 7))
                self.assertEqual(count_deeds_in(table, row), deeds)
                self.assertIs(is_tower_step(table, row), all(not plain.odds(row, other) for other in table))
        self.assertEqual(len(built(WIDE)), 6)

    def test_a_row_that_the_tower_has(self):
        table = ((9, 9), (4, 4), (4, 4), (0, 1))
        self.assertEqual(goes_through(table, (4, 4)), [(4, 4), (4, 4), (4, 4), (4, 4), (0, 1)])
        self.assertEqual(pushed_in(table, (4, 4)), ((9, 9), (4, 4), (4, 4), (4, 4), (0, 1)))
        self.assertEqual((bumped(table, (4, 4)), count_deeds_in(table, (4, 4))), ((3, 3), 0))
        self.assertIs(is_tower_step(table, (4, 4)), True)
        self.assertEqual(steps(table), ((5, 5), (0, 0), (4, 3)))

    def test_heaps_at_the_bounds(self):
        table = ((0, 0), (99, 99))
        self.assertEqual((steps(table), bumped(table, (99, 0))), (((99, 99),), (1, 2)))
        self.assertEqual(pushed_in(table, (99, 0)), ((99, 99), (99, 0), (0, 0)))

    def test_pairs_that_pass_by_nothing(self):
        # In a tower no sum is passed: all pairs pass by 0.
        self.assertEqual(best_pair(((0, 0), (1, 1), (2, 2))), (0, 1))
        self.assertEqual(best_pair(((7, 7),) * 6), (0, 1))
        # The greater of both old sums is the one that counts.
        self.assertEqual(best_pair(((9, 0), (0, 1), (3, 4), (4, 3))), (0, 2))
        self.assertEqual(best_pair(((90, 0), (0, 1), (1, 4), (4, 1))), (0, 2))
        self.assertEqual(best_pair(((9, 0), (0, 1), (3, 0), (0, 2))), (0, 3))

    def test_tables_that_are_not_like(self):
        for other in (TOLD[:2], ((3,), (1,), (0,)), ((0, 0, 0),) * 3):
            self.assertIs(tower_below(TOLD, other), False)
            self.assertIs(tower_below(other, TOLD), False)
        self.assertRaises(BadTable, tower_below, TOLD, None)
        self.assertRaises(BadTable, tower_below, TOLD[:1], ((1,), (1, 2)))

    def test_tables_that_are_no_tower(self):
        for table in (TOLD, WIDE, SPREAD, ((3, 1), (9, 9), (0, 4))):
            self.assertTrue(at_odds(table))
            self.assertRaises(NotOver, steps, table)
            for told in ON_ROW:
                self.assertRaises(NotOver, told, table, (0,) * len(table[0]))
                self.assertRaises(NotOver, told, table, table[0])
            self.assertEqual(built(table)[-1], tower(table))
            self.assertIs(tower_below(table, table), True)

    def test_no_tower_comes_behind_all_other_errors(self):
        for told in ON_ROW:
            for row in WRONG_ROWS + ODD:
                self.assertRaises(BadRow, told, TOLD, row)
                self.assertRaises(BadRow, told, tower(TOLD), row)
            for table in (None, (), ((1, 2), (2,)), ((1, 0), (0, True))):
                self.assertRaises(BadTable, told, table, None)
        self.assertRaises(BadTable, steps, ((1, 0), (0, 1), None))

    def test_answers_are_new(self):
        base = crowd(((3, 4), (1, 2), (0, 1)))
        goes_through(base, (2, 0)).append(None)
        built(base).clear()
        self.assertEqual((len(goes_through(base, (2, 0))), len(built(base))), (4, 3))


if __name__ == "__main__":
    unittest.main()
