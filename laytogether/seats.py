"""People in a row, who lay with neighbors only."""

from laytogether.basics import check_number, check_table, laid, rows_at_odds, tower_of, walk
from laytogether.lays import MOST_LAID, MOST_TURNS, behind_round, laid_all, rounds


def side_odds(table):
    """Return the list of the pairs (person, next one) at odds."""
    check_table(table)
    return side_pairs(table)


def is_quiet(table):
    """Return whether no person is at odds with the next one."""
    check_table(table)
    return not side_pairs(table)


def row_nexts(table):
    """Return the ascending list of the tables that one lay (person, next one) of two at odds makes."""
    check_table(table)
    return nexts_in_row(table)


def count_row(table):
    """Return how many tables lays of neighbors at odds make, the table among them."""
    check_table(table)
    steps, _ = walk_row(table)
    return len(steps)


def quiet_ends(table):
    """Return the ascending list of the quiet tables that lays of neighbors at odds make."""
    check_table(table)
    _, links = walk_row(table)
    return sorted([made for made in links if not links[made]])


def least_quiet(table):
    """Return the least number of lays of neighbors at odds to a quiet table."""
    check_table(table)
    steps, links = walk_row(table)
    return min([steps[made] for made in links if not links[made]])


def swept(table, turns):
    """Return the table behind so many rounds."""
    return rounds(table, turns)


def even_odd(table, turns):
    """Return the table behind turns of the lays (0, 1), (2, 3), .. and, in every other one, (1, 2), (3, 4), .."""
    check_table(table)
    check_number(turns, 0, MOST_TURNS)
    now = table
    for turn in range(turns):
        now = behind_turn(now, turn)
    return now


def least_even_odd(table):
    """Return the least number of turns of even_odd that makes in_order of the order 0, 1, .."""
    check_table(table)
    goal = tower_of(table)
    now = table
    turns = 0
    while now != goal:
        now = behind_turn(now, turns)
        turns += 1
    return turns


def passed_round(table, turns):
    """Return the table behind so many rounds, behind each of which the last person lays with 0."""
    check_table(table)
    check_number(turns, 0, MOST_TURNS)
    return behind_passing(table, turns)


def where_top(table, turns):
    """Return the least person who has the top row of the tower behind the turns of passed_round, None without one."""
    check_table(table)
    check_number(turns, 0, MOST_TURNS)
    top = tower_of(table)[0]
    behind = behind_passing(table, turns)
    return behind.index(top) if top in behind else None


def side_pairs(table):
    """Return the list of the pairs (person, next one) at odds, without checks."""
    neighbors = [(person, person + 1) for person in range(len(table) - 1)]
    return [(one, other) for one, other in neighbors if rows_at_odds(table[one], table[other])]


def nexts_in_row(table):
    """Return the ascending list of the tables that one lay of neighbors at odds makes."""
    # No two of them are the same: the first row that is not as it was tells who has laid.
    return sorted([laid(table, one, other) for one, other in side_pairs(table)])


def walk_row(table):
    """Tell all that lays of neighbors at odds make of a table, as walk tells it."""
    # Lays of neighbors make no more tables of six people than there are orders, 720: this is never too many.
    return walk(table, nexts_in_row, MOST_LAID)


def behind_turn(table, turn):
    """Return the table behind a turn of even_odd."""
    return laid_all(table, [(person, person + 1) for person in range(turn % 2, len(table) - 1, 2)])


def behind_passing(table, turns):
    """Return the table behind so many turns of passed_round, without checks."""
    last = len(table) - 1
    now = table
    for _ in range(turns):
        now = behind_round(now)
        # Two people have laid with each other already, and one has nobody.
        if last > 1:
            now = laid(now, last, 0)
    return now
