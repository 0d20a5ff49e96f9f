"""Towers as stairs: their steps, rows that go through them, and the towers that one person after another builds."""

from laytogether.basics import are_like, check_row, check_table, crowd_of, laid_rows, odds_pairs, pairs_of, row_over
from laytogether.basics import rows_at_odds, tower_of
from laytogether.errors import NotOver
from laytogether.tables import quarrels


def steps(table):
    """Return the tuple of the tuples of differences, good by good, of each row and the next one, from the top."""
    check_table(table)
    check_tower(table)
    rows = crowd_of(table)
    return tuple(less(row, later) for row, later in zip(rows, rows[1:]))


def is_tower_step(table, row):
    """Return whether there is a tower with a row more, too."""
    check_stairs(table, row)
    return not quarrels(table, row)


def goes_through(table, row):
    """Return the list of what a row becomes that lays with each row, from the top, itself first."""
    check_stairs(table, row)
    return passing(table, row)


def pushed_in(table, row):
    """Return the crowd behind a row that has gone through."""
    check_stairs(table, row)
    # Each good goes to its place among the heaps, as it does in the tower of all rows.
    return tower_of(table + (row,))


def count_deeds_in(table, row):
    """Return how many of the lays of a row that goes through join rows at odds."""
    check_stairs(table, row)
    return len([True for one, other in zip(crowd_of(table), passing(table, row)) if rows_at_odds(one, other)])


def bumped(table, row):
    """Return the tuple, for each good, of how many rows have no less than a row."""
    check_stairs(table, row)
    return tuple(len([other for other in table if other[good] >= heap]) for good, heap in enumerate(row))


def built(table):
    """Return the list of the towers of the first 1, 2, .. people."""
    check_table(table)
    return [tower_of(table[:many]) for many in range(1, len(table) + 1)]


def tower_below(one, other):
    """Return whether two tables are like and each row of the tower of one is over that of other."""
    check_table(one)
    check_table(other)
    return are_like(one, other) and all(row_over(mine, yours) for mine, yours in zip(tower_of(one), tower_of(other)))


def best_pair(table):
    """Return the least pair of people whose lay makes the sum of the greater row pass both old ones by most."""
    check_table(table)
    # Of equal ones max takes the first, and the pairs are ascending.
    return max(pairs_of(table), key=lambda pair: passed_by(table[pair[0]], table[pair[1]]), default=None)


def check_tower(table):
    """Raise NotOver for a table that is no tower."""
    if odds_pairs(table):
        raise NotOver("some rows are at odds")


def check_stairs(table, row):
    """Raise the first error of a table that is to be a tower and a row as those of it."""
    check_table(table)
    check_row(table, row)
    check_tower(table)


def less(row, other):
    """Return the tuple of the differences of two rows, good by good."""
    return tuple(mine - yours for mine, yours in zip(row, other))


def passing(table, row):
    """Return the list of what a row becomes that goes through a tower, itself first, without checks."""
    found = [row]
    for other in crowd_of(table):
        _, left = laid_rows(other, found[-1])
        found.append(left)
    return found


def passed_by(row, other):
    """Return by how much the sum of the greater row of a lay passes both old sums."""
    made, _ = laid_rows(row, other)
    return sum(made) - max(sum(row), sum(other))
