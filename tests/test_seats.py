"""Point 13: people in a row, who lay with neighbors."""

import unittest
from itertools import permutations, product

from laytogether.crowds import tower
from laytogether.errors import BadNumber
from laytogether.lays import in_order, rounds
from laytogether.seats import (
    count_row, even_odd, is_quiet, least_even_odd, least_quiet, passed_round, quiet_ends, row_nexts, side_odds, swept,
    where_top,
)
from tests import plain
from tests.inputs import EXACT, ONE_MORE, TOLD, WIDE

TABLES = plain.small_tables() + plain.three_by_two() + plain.more_tables()
MANY = [EXACT, WIDE, ONE_MORE]

ON_TURNS = (swept, even_odd, passed_round, where_top)


def plain_side_odds(table):
    return [(one, other) for one, other in plain.odds_of(table) if other == one + 1]


def plain_nexts(table):
    return {plain.lay(table, one, other) for one, other in plain_side_odds(table)}


def plain_row(table):
    """The dict from each table that lays of neighbors at odds make to the least number of them."""
    steps, front, turn = {table: 0}, {table}, 0
    while front:
        turn += 1
        front = {made for told in front for made in plain_nexts(told)} - set(steps)
        steps.update({made: turn for made in front})
    return steps


def plain_even_odd(table, turns):
    for turn in range(turns):
        first = 0 if turn in range(0, 60, 2) else 1
        for one in range(len(table)):
            if one >= first and (one - first) in (0, 2, 4) and one + 1 < len(table):
                table = plain.lay(table, one, one + 1)
    return table


def plain_passed(table, turns):
    lays = [(one, one + 1) for one in range(len(table)) if one + 1 < len(table)]
    if len(table) not in (1, 2):
        lays.append((len(table) - 1, 0))
    for _ in range(turns):
        table = plain.laid_all(table, lays)
    return table


class Examples(unittest.TestCase):

    def test_examples(self):
        two = ((1, 2), (2, 1))
        self.assertEqual((side_odds(TOLD), is_quiet(TOLD)), ([(0, 1), (1, 2)], False))
        self.assertEqual((row_nexts(two), count_row(two)), ([((2, 2), (1, 1))], 2))
        self.assertEqual((quiet_ends(two), least_quiet(two)), ([((2, 2), (1, 1))], 1))
        self.assertEqual((swept(TOLD, 1), even_odd(TOLD, 2)), (((3, 2), (1, 4), (0, 1)),) * 2)
        self.assertEqual(least_even_odd(TOLD), 3)
        self.assertEqual((passed_round(TOLD, 1), where_top(TOLD, 1)), (((0, 1), (1, 4), (3, 2)), None))


class PlainAnswers(unittest.TestCase):

    def each(self, check):
        for table in TABLES:
            with self.subTest(table=table):
                check(table)

    def test_one_lay(self):
        def check(table):
            self.assertEqual(side_odds(table), plain_side_odds(table))
            self.assertIs(is_quiet(table), not plain_side_odds(table))
            self.assertEqual(row_nexts(table), sorted(plain_nexts(table)))
        self.each(check)

    def test_all_lays(self):
        def check(table):
            steps = plain_row(table)
            ends = [told for told in steps if not plain_side_odds(told)]
            self.assertEqual((count_row(table), quiet_ends(table)), (len(steps), sorted(ends)))
            self.assertEqual(least_quiet(table), min(steps[told] for told in ends))
        self.each(check)
        for table in MANY:
            check(table)

    def test_turns(self):
        def check(table):
            for turns in (0, 1, 2, 3, 4, 5, 7):
                self.assertEqual(even_odd(table, turns), plain_even_odd(table, turns))
                self.assertEqual(swept(table, turns), rounds(table, turns))
                self.assertEqual(passed_round(table, turns), plain_passed(table, turns))
                with_top = [at for at, row in enumerate(plain_passed(table, turns)) if row == plain.tower(table)[0]]
                self.assertEqual(where_top(table, turns), min(with_top, default=None))
        self.each(check)
        for table in MANY:
            check(table)

    def test_least_even_odd(self):
        def check(table):
            goal = in_order(table, tuple(range(len(table))))
            behind = [plain_even_odd(table, turns) for turns in range(len(table) + 1)]
            self.assertEqual(least_even_odd(table), behind.index(goal))
        self.each(check)
        for table in MANY:
            check(table)
        for told in permutations(range(5)):
            check(tuple((heap, 4 - heap) for heap in told))

    def test_swept_is_rounds(self):
        for table, turns in product(plain.more_tables(), (0, 1, 2, 59, 60)):
            told = table
            for _ in range(turns):
                told = plain.laid_all(told, [(one, one + 1) for one in range(len(table) - 1)])
            self.assertEqual(swept(table, turns), told)


class Edges(unittest.TestCase):

    def check_still(self, table):
        """No two neighbors are at odds."""
        self.assertEqual((side_odds(table), is_quiet(table), row_nexts(table)), ([], True, []))
        self.assertEqual((count_row(table), quiet_ends(table), least_quiet(table)), (1, [table], 0))

    def test_one_person(self):
        table = ((0, 99),)
        self.check_still(table)
        self.assertEqual(least_even_odd(table), 0)
        for turns in (0, 1, 60):
            self.assertEqual([told(table, turns) for told in ON_TURNS], [table, table, table, 0])

    def test_two_people(self):
        # The last person does not lay with 0, who keeps the top row.
        for table in plain.all_tables(2, 2, 1) + [((0, 99), (99, 0))]:
            self.assertEqual(passed_round(table, 0), table)
            for turns in (1, 2, 3, 60):
                self.assertEqual((passed_round(table, turns), where_top(table, turns)), (tower(table), 0))
                self.assertEqual((even_odd(table, turns), swept(table, turns)), (tower(table),) * 2)

    def test_three_people(self):
        # The last person does lay with 0.
        table = ((3,), (2,), (1,))
        self.assertEqual([passed_round(table, turns) for turns in range(4)], [
            table, ((1,), (2,), (3,)), ((1,), (3,), (2,)), ((1,), (2,), (3,)),
        ])
        self.assertEqual([where_top(table, turns) for turns in range(4)], [0, 2, 1, 2])

    def test_one_good(self):
        # Of one good nobody is at odds, whatever the order.
        table = ((0,), (5,), (99,), (5,), (1,), (0,))
        self.check_still(table)
        self.assertEqual(even_odd(table, 60), ((99,), (5,), (5,), (1,), (0,), (0,)))
        self.assertEqual((least_even_odd(((0,), (1,), (2,), (3,), (4,), (5,)))), 6)

    def test_quiet_people_may_be_at_odds(self):
        table = ((3, 1), (0, 0), (0, 4))
        self.check_still(table)
        # A lower row ahead of a greater one stays where it is.
        self.check_still(((0, 0), (1, 1)))

    def test_towers_and_equal_rows(self):
        self.check_still(((9, 9), (4, 4), (4, 4)))
        self.check_still(((7, 7),) * 6)
        self.assertEqual(where_top(((7, 7),) * 6, 60), 0)
        self.assertEqual(where_top(((1, 1), (7, 7), (7, 7)), 0), 1)
        table = ((1, 0), (0, 1), (1, 0), (0, 1))
        self.assertEqual(side_odds(table), [(0, 1), (1, 2), (2, 3)])
        self.assertEqual(row_nexts(table), [
            ((1, 0), (0, 1), (1, 1), (0, 0)), ((1, 0), (1, 1), (0, 0), (0, 1)), ((1, 1), (0, 0), (1, 0), (0, 1)),
        ])

    def test_six_people_and_five_goods(self):
        table = tuple((99, 0, k, 5 - k, 7) for k in range(6))
        steps = plain_row(table)
        self.assertEqual((count_row(table), len(row_nexts(table))), (len(steps), 5))
        self.assertEqual(even_odd(table, 6), tower(table))
        self.assertEqual(even_odd(table, 60), tower(table))
        self.assertEqual(swept(table, 60), tower(table))
        self.assertEqual(passed_round(table, 60), plain_passed(table, 60))

    def test_no_turns(self):
        for table in TABLES:
            top = plain.tower(table)[0]
            self.assertEqual([told(table, 0) for told in ON_TURNS[:3]], [table] * 3)
            self.assertEqual(where_top(table, 0), table.index(top) if top in table else None)

    def test_wrong_turns(self):
        for told in ON_TURNS:
            for turns in (-1, 61, None, True, False, "1", (1,), [1], {}, 10 ** 40):
                self.assertRaises(BadNumber, told, TOLD, turns)

    def test_never_too_many(self):
        # Lays of neighbors make no more tables than there are orders of six people.
        self.assertEqual((count_row(WIDE), is_quiet(WIDE)), (720, False))
        self.assertIs(all(is_quiet(end) for end in quiet_ends(WIDE)), True)


if __name__ == "__main__":
    unittest.main()
