"""Point 12: fixed lays."""

import unittest
from itertools import combinations, permutations, product

from laytogether.errors import BadLays, BadNumber
from laytogether.fixed import (
    brings_all, count_left, count_states, fewest_lays, idle, left_over, plain_lays, shows_fixed,
)
from tests import plain
from tests.inputs import ODD


def some_lays(many):
    """Lays of so many people: all short tuples of them, and some longer ones."""
    pairs = list(permutations(range(many), 2))
    found = [lays for length in range(4 if many < 4 else 3) for lays in product(pairs, repeat=length)]
    for told in (plain_lays(many), plain_lays(many) * 3, tuple(pairs), tuple(pairs[::-1])):
        found += [told, told[::-1], told[1:], told[:-1]]
    return [lays for lays in found if len(lays) <= 60]


def bits(many):
    return list(product((0, 1), repeat=many))


def made(heaps, lays):
    """What lays make of the heaps of one good."""
    return tuple(row[0] for row in plain.laid_all(tuple((heap,) for heap in heaps), lays))


def ordered(heaps):
    return tuple(sorted(heaps)[::-1])


class Examples(unittest.TestCase):

    def test_examples(self):
        self.assertIs(brings_all(3, ((0, 1), (1, 2), (0, 1))), True)
        self.assertEqual(left_over(2, ()), [(0, 1)])
        self.assertEqual(count_left(3, ((0, 1), (1, 2))), 1)
        self.assertEqual(count_states(2, ((0, 1),)), 3)
        self.assertEqual(idle(2, ((0, 1), (0, 1))), (1,))
        self.assertEqual(plain_lays(3), ((0, 1), (1, 2), (0, 1)))
        self.assertEqual(len(fewest_lays(4)), 5)
        self.assertIs(shows_fixed(2, ((1, 0),)), False)


class PlainAnswers(unittest.TestCase):

    def test_what_lays_bring(self):
        for many in (1, 2, 3, 4):
            for lays in some_lays(many):
                with self.subTest(many=many, lays=lays):
                    left = [heaps for heaps in bits(many) if made(heaps, lays) != ordered(heaps)]
                    self.assertEqual(left_over(many, lays), left)
                    self.assertEqual(count_left(many, lays), len(left))
                    self.assertEqual(count_states(many, lays), len({made(heaps, lays) for heaps in bits(many)}))

    def test_all_tables_are_told_by_heaps_0_and_1(self):
        for many in (1, 2, 3, 4):
            drawn = list(permutations(range(many)))
            for lays in some_lays(many):
                with self.subTest(many=many, lays=lays):
                    good = all(made(heaps, lays) == ordered(heaps) for heaps in drawn)
                    self.assertIs(brings_all(many, lays), good)
                    steps = [[made(heaps, lays[:length]) for heaps in drawn] for length in range(len(lays) + 1)]
                    still = [index for index in range(len(lays)) if steps[index] == steps[index + 1]]
                    self.assertEqual(idle(many, lays), tuple(still))

    def test_tables_of_two_goods(self):
        for table in plain.three_by_two():
            self.assertEqual(plain.laid_all(table, plain_lays(3)), plain.tower(table))
            self.assertEqual(plain.laid_all(table, fewest_lays(3)), plain.tower(table))


class Edges(unittest.TestCase):

    def test_one_person(self):
        self.assertIs(brings_all(1, ()), True)
        self.assertEqual((left_over(1, ()), count_left(1, ()), count_states(1, ()), idle(1, ())), ([], 0, 2, ()))
        self.assertEqual((plain_lays(1), fewest_lays(1)), ((), ()))
        self.assertIs(shows_fixed(1, ()), True)
        with self.assertRaises(BadLays) as caught:
            brings_all(1, ((0, 0),))
        self.assertEqual(caught.exception.index, 0)

    def test_six_people(self):
        lays = plain_lays(6)
        self.assertEqual((len(lays), lays[:6], lays[-1]), (15, ((0, 1), (1, 2), (2, 3), (3, 4), (4, 5), (0, 1)), (0, 1)))
        self.assertIs(brings_all(6, lays), True)
        self.assertEqual((count_states(6, lays), count_states(6, ()), count_left(6, ())), (7, 64, 57))
        self.assertEqual(left_over(6, ())[0], (0, 0, 0, 0, 0, 1))
        self.assertIs(brings_all(6, lays[1:]), False)
        self.assertEqual(idle(6, lays), ())

    def test_plain_lays_bring_all(self):
        self.assertEqual(plain_lays(2), ((0, 1),))
        self.assertEqual(plain_lays(4), ((0, 1), (1, 2), (2, 3), (0, 1), (1, 2), (0, 1)))
        for many in range(1, 7):
            self.assertIs(brings_all(many, plain_lays(many)), True)

    def test_no_lays_and_sixty(self):
        self.assertIs(brings_all(2, ()), False)
        lays = ((0, 1),) * 60
        self.assertIs(brings_all(2, lays), True)
        self.assertEqual(idle(2, lays), tuple(range(1, 60)))
        self.assertEqual(idle(2, ((0, 1), (1, 0)) * 30), ())
        for told in (brings_all, left_over, count_left, count_states, idle):
            with self.assertRaises(BadLays) as caught:
                told(2, lays + ((0, 1),))
            self.assertIsNone(caught.exception.index)

    def test_a_lay_that_is_idle_only_where_it_stands(self):
        self.assertEqual(idle(3, ((0, 1), (1, 2), (0, 1), (0, 2), (1, 2), (2, 1))), (3, 4))

    def test_fewest_lays_are_for_five_at_most(self):
        for told in (fewest_lays, lambda many: shows_fixed(many, ()), lambda many: shows_fixed(many, plain_lays(6))):
            self.assertRaises(BadNumber, told, 6)


class Fewest(unittest.TestCase):

    def test_they_bring_all(self):
        for many, length in zip(range(1, 6), (0, 1, 3, 5, 9)):
            lays = fewest_lays(many)
            self.assertEqual(len(lays), length)
            self.assertIs(brings_all(many, lays), True)
            self.assertIs(shows_fixed(many, lays), True)

    def test_none_are_shorter(self):
        # Lays either way for few people; for 5 those by which the lesser person takes more: others need no fewer.
        for many in (1, 2, 3, 4):
            self.assertEqual(self.shortest(many, list(permutations(range(many), 2))), len(fewest_lays(many)))
        self.assertEqual(self.shortest(5, list(combinations(range(5), 2))), len(fewest_lays(5)))

    def shortest(self, many, pairs):
        """The least number of lays that leave no tuple of 0 and 1 out of order, sought through all sets of them."""
        ahead = {frozenset(bits(many))}
        goal = frozenset(ordered(heaps) for heaps in bits(many))
        for length in range(20):
            if goal in ahead:
                return length
            ahead = {frozenset(self.swapped(heaps, pair) for heaps in told) for told in ahead for pair in pairs}
        return None

    def swapped(self, heaps, pair):
        one, other = pair
        if heaps[one] >= heaps[other]:
            return heaps
        changed = list(heaps)
        changed[one], changed[other] = 1, 0
        return tuple(changed)


class ShowsFixed(unittest.TestCase):

    def test_all_short_lays(self):
        for many, most in ((1, 1), (2, 3), (3, 4)):
            for length in range(most + 1):
                for lays in product(permutations(range(many), 2), repeat=length):
                    good = length == len(fewest_lays(many)) and all(
                        made(heaps, lays) == ordered(heaps) for heaps in permutations(range(many)))
                    self.assertIs(shows_fixed(many, lays), good)

    def test_lays_either_way(self):
        # The first lay turned, and the two people exchanged behind it.
        self.assertIs(shows_fixed(3, ((1, 0), (0, 2), (0, 1))), True)
        self.assertIs(shows_fixed(3, ((1, 0), (1, 2), (0, 1))), False)

    def test_values_of_all_kinds(self):
        values = ODD + [5, (), (0, 1), [(0, 1)], ([0, 1],), ("01",), ((0, 1, 1),), ((0, 2),), ((1, 1),), ((1, 0),)]
        values += [((False, True),), ((0, True),), ((False, 1),), ((0, 1),) * 2, ((0, 1),) * 61, ((0, 1), None)]
        for value in values:
            self.assertIs(shows_fixed(2, value), False, value)
        self.assertIs(shows_fixed(2, ((0, 1),)), True)
        for value in (None, False, [], "", {}, ((0, 0),)):
            self.assertIs(shows_fixed(1, value), False, value)


if __name__ == "__main__":
    unittest.main()
