"""Tables all heaps of which are drawn, each for itself, and numbers of rows and towers with heaps up to a bound."""

from math import comb

from laytogether.basics import MOST_GOODS, MOST_HEAP, MOST_PEOPLE, check_number, choices, is_heap_tuple, odds_pairs
from laytogether.basics import ratio
from laytogether.errors import BadRow, TooMany

MOST_DRAWN = 5000


def two_at_odds(goods, most):
    """Return the chance that two people are at odds, a ratio."""
    check_row_drawn(goods, most)
    return odds_ratio(1, goods, most)


def mean_drawn_odds(people, goods, most):
    """Return the mean number of pairs at odds, a ratio."""
    check_drawn(people, goods, most)
    # Any two people are at odds with the same chance.
    return odds_ratio(comb(people, 2), goods, most)


def over_all(people, goods, most):
    """Return the chance that a told person is over all, a ratio."""
    check_drawn(people, goods, most)
    # The others may have each heap up to that of the told person.
    greatest = sum(power(lesser, people - 1) for lesser in range(1, most + 2))
    return ratio(power(greatest, goods), power(most + 1, people * goods))


def tower_drawn(people, goods, most):
    """Return the chance that a table is a tower, a ratio."""
    check_few_tables(people, goods, most)
    return ratio(towers_among(people, goods, most), power(most + 1, people * goods))


def count_towers(people, goods, most):
    """Return the number of crowds that are towers."""
    check_drawn(people, goods, most)
    check_few(power(most + 1, goods))
    # Any heaps of the goods make a tower, and just one.
    return power(comb(most + people, people), goods)


def count_tower_tables(people, goods, most):
    """Return the number of tables that are towers."""
    check_few_tables(people, goods, most)
    return towers_among(people, goods, most)


def count_rows_over(row, most):
    """Return how many rows of heaps 0 to most a row is over."""
    check_row_within(row, most)
    return count_under(row)


def count_rows_under(row, most):
    """Return how many rows of heaps 0 to most are over a row."""
    check_row_within(row, most)
    return count_above(row, most)


def count_rows_at_odds(row, most):
    """Return how many rows of heaps 0 to most are at odds with a row."""
    check_row_within(row, most)
    # The row itself is both over and under.
    return power(most + 1, len(row)) - count_under(row) - count_above(row, most) + 1


def check_row_drawn(goods, most):
    """Raise BadNumber for numbers of which no row is drawn."""
    check_number(goods, 1, MOST_GOODS)
    check_number(most, 0, MOST_HEAP)


def check_drawn(people, goods, most):
    """Raise BadNumber for numbers of which no table is drawn."""
    check_number(people, 1, MOST_PEOPLE)
    check_row_drawn(goods, most)


def check_few(many):
    """Raise TooMany if there are more than are allowed."""
    if many > MOST_DRAWN:
        raise TooMany(MOST_DRAWN)


def check_few_tables(people, goods, most):
    """Raise the first error of numbers of which only few tables may be drawn."""
    check_drawn(people, goods, most)
    check_few(power(most + 1, people * goods))


def check_row_within(row, most):
    """Raise the first error of a row and a bound of heaps that is no less than any of its own."""
    if not is_heap_tuple(row, MOST_GOODS):
        raise BadRow("no tuple of 1 to 5 heaps")
    check_number(most, max(row), MOST_HEAP)


def power(number, times):
    """Return the product of so many factors that are all one number."""
    made = 1
    for _ in range(times):
        made = made * number
    return made


def odds_ratio(pairs, goods, most):
    """Return the mean number of those at odds of so many pairs of people, a ratio."""
    heaps = most + 1
    everything = power(heaps * heaps, goods)
    over = power(comb(heaps + 1, 2), goods)
    # Each is over the other one as often; rows that are the same would be taken away twice.
    return ratio(pairs * (everything - 2 * over + power(heaps, goods)), everything)


def towers_among(people, goods, most):
    """Return the number of tables that are towers, without checks."""
    rows = choices([list(range(most + 1))] * goods)
    return len([table for table in choices([rows] * people) if not odds_pairs(table)])


def count_under(row):
    """Return how many rows a row is over."""
    count = 1
    for heap in row:
        count = count * (heap + 1)
    return count


def count_above(row, most):
    """Return how many rows of heaps 0 to most are over a row."""
    return count_under([most - heap for heap in row])
