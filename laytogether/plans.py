"""Plans: pairs of people meet in order; those at odds then lay, others do nothing."""

from laytogether.basics import check_lays, check_person, check_table, crowd_of, is_number, laid, odds_pairs, pairs_of
from laytogether.basics import rows_at_odds, tower_of


def met(table, pairs):
    """Return the table behind a plan."""
    check_plan(table, pairs)
    return behind_plan(table, pairs)


def deeds_done(table, pairs):
    """Return how many of the pairs of a plan lay."""
    check_plan(table, pairs)
    return len(tables_of_plan(table, pairs)) - 1


def ends_at_tower(table, pairs):
    """Return whether the table behind a plan has the rows of the tower."""
    check_plan(table, pairs)
    return crowd_of(behind_plan(table, pairs)) == tower_of(table)


def all_meet(table):
    """Return the table when all pairs of people meet once, the least first."""
    check_table(table)
    return behind_plan(table, pairs_of(table))


def meetings_needed(table):
    """Return how many times all pairs of people must meet until there is a tower."""
    check_table(table)
    now = table
    times = 0
    while odds_pairs(now):
        now = behind_plan(now, pairs_of(now))
        times += 1
    return times


def host(table, person):
    """Return the table when a person meets all others in order, taking more."""
    check_table(table)
    check_person(table, person)
    return behind_host(table, person)


def host_has_top(table, person):
    """Return whether a person who has met all others, taking more, has the top row of the tower."""
    check_table(table)
    check_person(table, person)
    return behind_host(table, person)[person] == tower_of(table)[0]


def reach(table, lot):
    """Return the row of the greatest heaps of a tuple of people, None for any other value and for ()."""
    check_table(table)
    if not is_lot(lot, len(table)):
        return None
    rows = [table[person] for person in lot]
    return tuple(max(column) for column in zip(*rows))


def check_plan(table, pairs):
    """Raise the first error of a table and the pairs of a plan."""
    check_table(table)
    check_lays(pairs, len(table))


def tables_of_plan(table, pairs):
    """Return the list of the tables of a plan: that ahead of it and, behind each pair that lays, the one then."""
    tables = [table]
    for one, other in pairs:
        now = tables[-1]
        if rows_at_odds(now[one], now[other]):
            tables.append(laid(now, one, other))
    return tables


def behind_plan(table, pairs):
    """Return the table behind a plan, without checks."""
    return tables_of_plan(table, pairs)[-1]


def behind_host(table, person):
    """Return the table when a person meets all others in order, taking more, without checks."""
    return behind_plan(table, [(person, other) for other in range(len(table)) if other != person])


def is_lot(value, many):
    """Tell whether a value is a tuple of at least one of so many people."""
    return isinstance(value, tuple) and value != () and all(is_number(person, 0, many - 1) for person in value)
