"""People told apart: lays of two of them, and who comes to which row of the tower."""

from itertools import combinations

from laytogether.basics import check_lays, check_number, check_order, check_person, check_table, check_two_people
from laytogether.basics import crowd_of, is_lays, laid, tower_of, walk

MOST_LAID = 3000
MOST_TURNS = 60


def lay(table, one, other):
    """Return the table in which one takes the greater heap of each good, other the lesser."""
    check_two_people(table, one, other)
    return laid(table, one, other)


def lay_all(table, lays):
    """Return the table behind lays, done in order."""
    check_table(table)
    check_lays(lays, len(table))
    return laid_all(table, lays)


def changing(table, lays):
    """Return the ascending tuple of the indexes of those lays that change the table."""
    check_table(table)
    check_lays(lays, len(table))
    indexes = []
    now = table
    for index, (one, other) in enumerate(lays):
        behind = laid(now, one, other)
        if behind != now:
            indexes.append(index)
        now = behind
    return tuple(indexes)


def in_order(table, order):
    """Return the table of the rows of the tower, the top one with the first person of an order, and so on."""
    check_table(table)
    check_order(table, order)
    return ordered(table, order)


def lays_for(table, order):
    """Return a tuple of lays, at most one for any two people, that makes in_order of an order."""
    check_table(table)
    check_order(table, order)
    people = list(order)
    # The lays of a person with all later ones leave them the greatest heaps of all of these.
    return tuple(combinations(people, 2))


def shows_lays(table, order, value):
    """Return whether a value is a tuple of lays that makes in_order of an order."""
    check_table(table)
    check_order(table, order)
    return is_lays(value, len(table)) and laid_all(table, value) == ordered(table, order)


def count_laid(table):
    """Return how many tables lays make of a table, it among them."""
    check_table(table)
    return len(lays_to_tables(table))


def least_lays(table, order):
    """Return the least number of lays to in_order of an order."""
    check_table(table)
    check_order(table, order)
    return lays_to_tables(table)[ordered(table, order)]


def easiest_order(table):
    """Return the least pair (number of lays, order) of lays to a table with the rows of the tower."""
    check_table(table)
    lays = lays_to_tables(table)
    return min([(lays[made], order_of(made)) for made in with_tower_rows(table, lays)])


def count_orders_met(table):
    """Return how many tables with the rows of the tower lays make."""
    check_table(table)
    return len(with_tower_rows(table, lays_to_tables(table)))


def helpers(table, person):
    """Return the least of the smallest tuples of others who, with a person, have the greatest heap of each good."""
    check_table(table)
    check_person(table, person)
    return fewest_for(table, person, tower_of(table)[0])


def lays_to_top(table, person):
    """Return the least number of lays behind which a person has the top row of the tower."""
    check_table(table)
    check_person(table, person)
    # Behind so many lays nobody has heaps of more others, and a lay with each helper is enough.
    return len(fewest_for(table, person, tower_of(table)[0]))


def lays_to_bottom(table, person):
    """Return the least number of lays behind which a person has the bottom row of the tower."""
    check_table(table)
    check_person(table, person)
    return len(fewest_for(table, person, tower_of(table)[-1]))


def rounds(table, turns):
    """Return the table behind so many rounds."""
    check_table(table)
    check_number(turns, 0, MOST_TURNS)
    now = table
    for _ in range(turns):
        now = behind_round(now)
    return now


def least_rounds(table):
    """Return the least number of rounds behind which the rows of the people are the tower, from its top."""
    check_table(table)
    goal = tower_of(table)
    now = table
    turns = 0
    while now != goal:
        now = behind_round(now)
        turns += 1
    return turns


def laid_all(table, lays):
    """Return the table behind lays, done in order, without checks."""
    now = table
    for one, other in lays:
        now = laid(now, one, other)
    return now


def ordered(table, order):
    """Return the table of the rows of the tower by an order, without checks."""
    rows = dict(zip(order, tower_of(table)))
    return tuple(rows[person] for person in range(len(table)))


def order_of(table):
    """Return the people by their rows, the greatest ones first, of equal ones the lesser person."""
    return tuple(sorted(range(len(table)), key=lambda person: table[person], reverse=True))


def tables_by_lays(table):
    """Return the list of the tables that one lay of two people makes."""
    many = len(table)
    return [laid(table, one, other) for one in range(many) for other in range(many) if one != other]


def lays_to_tables(table):
    """Return the dict from each table that lays make to the least number of them."""
    steps, _ = walk(table, tables_by_lays, MOST_LAID)
    return steps


def with_tower_rows(table, tables):
    """Return the list of those of the tables that have the rows of the tower of a table."""
    tower = tower_of(table)
    return [made for made in tables if crowd_of(made) == tower]


def fewest_for(table, person, row):
    """Return the least of the smallest tuples of others who, with a person, have each heap of a row."""
    others = [other for other in range(len(table)) if other != person]
    lots = [lot for size in range(len(table)) for lot in combinations(others, size)]
    fitting = [lot for lot in lots if have_all([table[person]] + [table[other] for other in lot], row)]
    return min(fitting, key=lambda lot: (len(lot), lot))


def have_all(rows, wanted):
    """Tell whether each heap of a wanted row is that of one of the rows."""
    return all(heap in column for heap, column in zip(wanted, list(zip(*rows))))


def behind_round(table):
    """Return the table behind a round."""
    return laid_all(table, [(person, person + 1) for person in range(len(table) - 1)])
