"""Point 5: fronts, lines and strict steps."""

import unittest

from laytogether.errors import BadPerson
from laytogether.fronts import (
    count_fronts, count_strict, fewest_towers, front_of, fronts, line_down, shows_line, sizes, steps_over,
)
from laytogether.tables import widest_odds
from tests import plain
from tests.inputs import ODD, TOLD, WIDE

MORE = [
    ((3, 3), (1, 2), (2, 1), (0, 0)), ((5, 5), (1, 4), (2, 2), (5, 5), (0, 1), (1, 1)), ((1,), (3,), (0,), (3,), (2,)),
]
TABLES = plain.small_tables() + plain.three_by_two() + plain.more_tables() + MORE + [WIDE]


class Examples(unittest.TestCase):

    def test_examples(self):
        told = ((3, 3), (1, 2), (2, 1), (0, 0))
        self.assertEqual((fronts(told), count_fronts(told)), ([(0,), (1, 2), (3,)], 3))
        self.assertEqual((front_of(told, 2), sizes(told), len(line_down(told, 0))), (1, (1, 2, 1), 3))
        self.assertIs(shows_line(told, 0, (0, 2, 3)), True)
        self.assertEqual((steps_over(told, 0, 3), steps_over(told, 1, 2)), (2, None))
        self.assertEqual((count_strict(told), fewest_towers(told)), (5, 2))


class PlainAnswers(unittest.TestCase):

    def each(self, check):
        for table in TABLES:
            with self.subTest(table=table):
                check(table, range(len(table)))

    def test_fronts(self):
        def check(table, people):
            # Whom nobody is over stands at the end of chains of one person alone, and so on.
            chains = plain.chains(table)
            numbers = [max(len(chain) - 1 for chain in chains if chain[-1] == person) for person in people]
            told = [tuple(at for at in people if numbers[at] == number) for number in range(max(numbers) + 1)]
            self.assertEqual(fronts(table), told)
            self.assertEqual([front_of(table, person) for person in people], numbers)
            self.assertEqual((count_fronts(table), sizes(table)), (len(told), tuple(len(front) for front in told)))
        self.each(check)

    def test_lines(self):
        def check(table, people):
            chains = plain.chains(table)
            for person in people:
                own = [chain for chain in chains if chain[0] == person]
                best = [chain for chain in own if len(chain) == max(len(other) for other in own)]
                self.assertIn(line_down(table, person), best)
                self.assertIs(shows_line(table, person, line_down(table, person)), True)
                for chain in chains:
                    self.assertIs(shows_line(table, person, chain), chain in best)
        self.each(check)

    def test_steps(self):
        def check(table, people):
            chains = plain.chains(table)
            for one in people:
                for other in people:
                    ends = [chain for chain in chains if chain[0] == one and table[chain[-1]] == table[other]]
                    most = max((len(chain) - 1 for chain in ends), default=None)
                    self.assertEqual(steps_over(table, one, other), most)
        self.each(check)

    def test_strict_pairs(self):
        def check(table, people):
            self.assertEqual(count_strict(table), len([chain for chain in plain.chains(table) if len(chain) == 2]))
        self.each(check)

    def test_fewest_towers(self):
        def check(table, people):
            counts = []
            for lots in plain.sharings(tuple(people)):
                if not any(plain.odds_of([table[person] for person in lot]) for lot in lots):
                    counts.append(len(lots))
            self.assertEqual(fewest_towers(table), min(counts))
            self.assertEqual(fewest_towers(table), len(widest_odds(table)))
        self.each(check)


class Edges(unittest.TestCase):

    def test_one_person(self):
        table = ((0, 99),)
        self.assertEqual((fronts(table), count_fronts(table), sizes(table), front_of(table, 0)), ([(0,)], 1, (1,), 0))
        self.assertEqual((line_down(table, 0), steps_over(table, 0, 0)), ((0,), 0))
        self.assertEqual((count_strict(table), fewest_towers(table)), (0, 1))

    def test_equal_rows_are_not_strictly_over(self):
        table = ((4, 4),) * 6
        self.assertEqual((fronts(table), sizes(table)), ([(0, 1, 2, 3, 4, 5)], (6,)))
        self.assertEqual((line_down(table, 3), count_strict(table), fewest_towers(table)), ((3,), 0, 1))
        self.assertEqual((steps_over(table, 0, 5), front_of(table, 5)), (0, 0))

    def test_the_same_person_told_twice(self):
        for person in range(3):
            self.assertEqual(steps_over(TOLD, person, person), 0)
        self.assertRaises(BadPerson, steps_over, TOLD, 3, 3)

    def test_a_tower_of_six(self):
        table = tuple((heap, 99) for heap in (0, 5, 1, 4, 2, 3))
        self.assertEqual(fronts(table), [(1,), (3,), (5,), (4,), (2,), (0,)])
        self.assertEqual((line_down(table, 1), line_down(table, 0)), ((1, 3, 5, 4, 2, 0), (0,)))
        self.assertEqual((steps_over(table, 1, 0), steps_over(table, 0, 1), steps_over(table, 3, 2)), (5, None, 3))
        self.assertEqual((count_strict(table), fewest_towers(table)), (15, 1))

    def test_all_at_odds(self):
        self.assertEqual((fronts(WIDE), count_strict(WIDE), fewest_towers(WIDE)), ([(0, 1, 2, 3, 4, 5)], 0, 6))
        self.assertEqual((line_down(WIDE, 5), steps_over(WIDE, 5, 4)), ((5,), None))

    def test_steps_go_by_the_longest_line(self):
        table = ((9, 9, 9), (5, 5, 5), (5, 5, 0), (0, 0, 0), (0, 0, 0), (9, 0, 0))
        self.assertEqual((steps_over(table, 0, 4), steps_over(table, 0, 5), steps_over(table, 5, 3)), (3, 1, 1))
        self.assertEqual((steps_over(table, 3, 4), steps_over(table, 2, 5)), (0, None))
        self.assertEqual(len(line_down(table, 0)), 4)


class ShowsLine(unittest.TestCase):

    def test_values_of_all_kinds(self):
        table = ((1, 1), (0, 0), (0, 0))
        values = [(0,), (0, 0), (1, 0), (1,), [0, 1], (0, 1, 2), (0, True), (False, 1), (0, 3), (0, -1), "01"]
        for value in ODD + values:
            self.assertIs(shows_line(table, 0, value), False, value)
        for value in ((0, 1), (0, 2)):
            self.assertIs(shows_line(table, 0, value), True)
        for value in ODD + [(0, 1), (1,), 2, [2], (2, 1), "2", (None,), ("2",), {2: 2}]:
            self.assertIs(shows_line(table, 2, value), False, value)
        self.assertIs(shows_line(table, 2, (2,)), True)

    def test_true_and_false_are_no_people(self):
        self.assertIs(shows_line(((0,), (1,)), 0, (False,)), False)
        self.assertIs(shows_line(((0,), (1,)), 1, (True, False)), False)
        self.assertIs(shows_line(((0,), (1,)), 1, (1, 0)), True)


if __name__ == "__main__":
    unittest.main()
