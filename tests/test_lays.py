"""Points 10 and 11: people told apart."""

import unittest
from itertools import permutations, product

from laytogether.errors import BadLays, NotTwo
from laytogether.lays import (
    changing, count_laid, count_orders_met, easiest_order, helpers, in_order, lay, lay_all, lays_for, lays_to_bottom,
    lays_to_top, least_lays, least_rounds, rounds, shows_lays,
)
from tests import plain
from tests.cases import HowManyCase
from tests.inputs import DEEP, ODD, WIDE

TOLD = ((3, 1), (1, 2), (0, 4))
TABLES = plain.small_tables() + plain.three_by_two() + plain.more_tables()

# Lays make 3000 tables of this one; of the other one they make 3004 (no nearer one was found).
EXACT = ((2, 0, 3), (3, 0, 0), (3, 3, 3), (0, 2, 1), (1, 3, 1))
SOME_MORE = ((2, 2, 0, 1), (1, 3, 0, 3), (2, 1, 0, 0), (1, 3, 0, 1), (1, 0, 2, 0))


def orders(table):
    return list(permutations(range(len(table))))


def ordered(table, order):
    """The table of the rows of the tower by an order."""
    end = plain.tower(table)
    return tuple(end[order.index(person)] for person in range(len(table)))


class Examples(unittest.TestCase):

    def test_examples(self):
        told = TOLD
        self.assertEqual(lay(told, 1, 0), ((1, 1), (3, 2), (0, 4)))
        self.assertEqual(lay_all(told, ((0, 1), (0, 2))), ((3, 4), (1, 1), (0, 2)))
        self.assertEqual(changing(told, ((0, 1), (0, 1))), (0,))
        self.assertEqual(in_order(told, (2, 0, 1)), ((1, 2), (0, 1), (3, 4)))
        self.assertIs(shows_lays(told, (2, 0, 1), lays_for(told, (2, 0, 1))), True)
        self.assertEqual(helpers(told, 1), (0, 2))
        self.assertEqual(lays_to_top(told, 0), 1)
        self.assertEqual(lays_to_bottom(told, 1), 2)
        self.assertEqual(least_lays(told, (0, 1, 2)), 1)
        self.assertEqual(count_laid(((1,), (0,))), 2)
        self.assertEqual(count_orders_met(((1,), (0,))), 2)
        self.assertEqual(easiest_order(told), (1, (0, 1, 2)))
        self.assertEqual(rounds(told, 1), ((3, 2), (1, 4), (0, 1)))
        self.assertEqual(least_rounds(told), 2)


class PlainAnswers(unittest.TestCase):

    def test_lays(self):
        for table in TABLES:
            pairs = list(permutations(range(len(table)), 2))
            for one, other in pairs:
                self.assertEqual(lay(table, one, other), plain.lay(table, one, other))
            for many in (0, 1, 2):
                for lays in product(pairs[:3], repeat=many):
                    self.check_lays(table, lays)
            self.check_lays(table, tuple(pairs))

    def check_lays(self, table, lays):
        self.assertEqual(lay_all(table, lays), plain.laid_all(table, lays))
        states = [plain.laid_all(table, lays[:many]) for many in range(len(lays) + 1)]
        told = tuple(index for index in range(len(lays)) if states[index] != states[index + 1])
        self.assertEqual(changing(table, lays), told)

    def test_orders(self):
        for table in TABLES:
            for order in orders(table):
                goal = ordered(table, order)
                self.assertEqual(in_order(table, order), goal)
                lays = lays_for(table, order)
                self.assertEqual(plain.laid_all(table, lays), goal)
                pairs = [tuple(sorted(pair)) for pair in lays]
                self.assertEqual(len(pairs), len(set(pairs)))
                self.assertIs(shows_lays(table, order, lays), True)
                for value in ((), lays[:-1], lays[::-1], lays + lays, ((0, 1),) * 60):
                    if len(table) > 1:
                        made = plain.laid_all(table, value)
                        self.assertIs(shows_lays(table, order, value), made == goal)

    def test_all_that_lays_make(self):
        for table in TABLES:
            if len(table) == 4 and len(table[0]) == 4:
                continue
            with self.subTest(table=table):
                steps = plain.by_lays(table)
                self.assertEqual(count_laid(table), len(steps))
                ends = {ordered(table, order) for order in orders(table)}
                self.assertEqual(count_orders_met(table), len(ends))
                self.assertTrue(ends <= set(steps))
                counts = [steps[ordered(table, order)] for order in orders(table)]
                self.assertEqual([least_lays(table, order) for order in orders(table)], counts)
                self.assertEqual(easiest_order(table), min(zip(counts, orders(table))))

    def test_helpers(self):
        for table in TABLES:
            for person in range(len(table)):
                with self.subTest(table=table, person=person):
                    others = [other for other in range(len(table)) if other != person]
                    lots = plain.subsets(others)
                    end = plain.tower(table)
                    top = [lot for lot in lots if self.row_of(max, table, person, lot) == end[0]]
                    bottom = [lot for lot in lots if self.row_of(min, table, person, lot) == end[-1]]
                    self.assertEqual(helpers(table, person), top[0])
                    self.assertEqual(lays_to_top(table, person), len(top[0]))
                    self.assertEqual(lays_to_bottom(table, person), len(bottom[0]))

    def row_of(self, choose, table, person, lot):
        return tuple(choose(column) for column in zip(*[table[other] for other in (person, *lot)]))

    def test_least_lays_to_a_row(self):
        for table in plain.three_by_two() + plain.more_tables()[:3]:
            steps = plain.by_lays(table)
            end = plain.tower(table)
            for person in range(len(table)):
                top = min(steps[made] for made in steps if made[person] == end[0])
                bottom = min(steps[made] for made in steps if made[person] == end[-1])
                self.assertEqual((lays_to_top(table, person), lays_to_bottom(table, person)), (top, bottom))

    def test_rounds(self):
        for table in TABLES:
            lays = tuple((person, person + 1) for person in range(len(table) - 1))
            behind = [plain.laid_all(table, lays * turns) for turns in range(8)]
            self.assertEqual([rounds(table, turns) for turns in range(8)], behind)
            self.assertEqual(least_rounds(table), behind.index(plain.tower(table)))
            self.assertEqual(rounds(table, 60), plain.tower(table))


class Edges(unittest.TestCase):

    def test_one_person(self):
        table = ((0, 99),)
        self.assertEqual((lay_all(table, ()), changing(table, ())), (table, ()))
        self.assertEqual((in_order(table, (0,)), lays_for(table, (0,))), (table, ()))
        self.assertEqual((count_laid(table), least_lays(table, (0,)), count_orders_met(table)), (1, 0, 1))
        self.assertEqual(easiest_order(table), (0, (0,)))
        self.assertEqual((helpers(table, 0), lays_to_top(table, 0), lays_to_bottom(table, 0)), ((), 0, 0))
        self.assertEqual((rounds(table, 60), least_rounds(table)), (table, 0))
        self.assertIs(shows_lays(table, (0,), ()), True)
        self.assertIs(shows_lays(table, (0,), ((0, 0),)), False)
        self.assertRaises(NotTwo, lay, table, 0, 0)
        with self.assertRaises(BadLays) as caught:
            lay_all(table, ((0, 0),))
        self.assertEqual(caught.exception.index, 0)

    def test_six_people_with_one_good(self):
        table = ((0,), (1,), (2,), (3,), (4,), (5,))
        self.assertEqual((count_laid(table), count_orders_met(table)), (720, 720))
        self.assertEqual((least_lays(table, (0, 1, 2, 3, 4, 5)), easiest_order(table)), (3, (0, (5, 4, 3, 2, 1, 0))))
        self.assertEqual(least_rounds(table), 5)
        self.assertEqual((helpers(table, 5), helpers(table, 0)), ((), (5,)))

    def test_six_people_and_five_goods(self):
        table = tuple(tuple(99 if good == person else 0 for good in range(5)) for person in range(6))
        self.assertEqual(helpers(table, 5), (0, 1, 2, 3, 4))
        self.assertEqual((lays_to_top(table, 5), lays_to_top(table, 0)), (5, 4))
        self.assertEqual((lays_to_bottom(table, 5), lays_to_bottom(table, 0)), (0, 1))
        for order in ((0, 1, 2, 3, 4, 5), (5, 0, 4, 1, 3, 2)):
            lays = lays_for(WIDE, order)
            self.assertEqual(lay_all(WIDE, lays), in_order(WIDE, order))
            self.assertEqual(in_order(WIDE, order), ordered(WIDE, order))
            self.assertLessEqual(len(lays), 15)
        self.assertEqual(rounds(WIDE, least_rounds(WIDE)), plain.tower(WIDE))

    def test_equal_rows(self):
        table = ((4, 4), (9, 9), (4, 4))
        self.assertEqual((count_laid(table), count_orders_met(table)), (3, 3))
        self.assertEqual(easiest_order(table), (0, (1, 0, 2)))
        self.assertEqual((least_lays(table, (1, 2, 0)), least_lays(table, (2, 0, 1))), (0, 1))
        table = ((7, 7),) * 6
        self.assertEqual((count_laid(table), easiest_order(table)), (1, (0, (0, 1, 2, 3, 4, 5))))

    def test_no_lays_and_sixty(self):
        self.assertEqual(lay_all(TOLD, ()), TOLD)
        self.assertEqual(changing(TOLD, ()), ())
        back = ((0, 1), (1, 0)) * 30
        self.assertEqual(changing(TOLD, back), tuple(range(60)))
        self.assertEqual(lay_all(TOLD, back), ((1, 1), (3, 2), (0, 4)))
        for told in (lay_all, changing):
            with self.assertRaises(BadLays) as caught:
                told(TOLD, back + ((0, 1),))
            self.assertIsNone(caught.exception.index)

    def test_no_turns(self):
        self.assertEqual(rounds(TOLD, 0), TOLD)

    def test_a_lay_of_one_person(self):
        self.assertRaises(NotTwo, lay, TOLD, 2, 2)


class HowMany(HowManyCase):

    def test_as_many_as_are_allowed(self):
        self.assertEqual(count_laid(EXACT), 3000)
        self.assertEqual(count_orders_met(EXACT), len({ordered(EXACT, order) for order in orders(EXACT)}))
        many, order = easiest_order(EXACT)
        self.assertEqual(least_lays(EXACT, order), many)

    def test_more(self):
        for told in (count_laid, easiest_order, count_orders_met):
            self.too_many(told, SOME_MORE)
            self.too_many(told, WIDE)
        self.too_many(least_lays, SOME_MORE, (0, 1, 2, 3, 4))
        self.too_many(least_lays, WIDE, (0, 1, 2, 3, 4, 5))

    def test_the_others_are_never_too_much(self):
        self.assertEqual(lays_to_top(WIDE, 0), len(helpers(WIDE, 0)))
        self.assertEqual((lays_to_bottom(DEEP, 5), lays_to_bottom(DEEP, 0)), (0, 1))


class ShowsLays(unittest.TestCase):

    def test_values_of_all_kinds(self):
        table, order = ((1, 5), (2, 4)), (0, 1)
        good = ((0, 1),)
        values = ODD + [5, (), (0, 1), [(0, 1)], ([0, 1],), ("01",), ((0, 1, 1),), ((0, 2),), ((1, 1),), ((-1, 0),)]
        values += [((False, True),), ((0, True),), ((False, 1),), good * 61, good + (None,), ((1, 0),)]
        for value in values:
            self.assertIs(shows_lays(table, order, value), False, value)
        for value in (good, good * 60, ((1, 0), (0, 1))):
            self.assertIs(shows_lays(table, order, value), True, value)

    def test_where_no_lay_is_needed(self):
        self.assertIs(shows_lays(((2, 2), (1, 1)), (0, 1), ()), True)
        for value in (None, False, [], "", {}):
            self.assertIs(shows_lays(((2, 2), (1, 1)), (0, 1), value), False)


if __name__ == "__main__":
    unittest.main()
