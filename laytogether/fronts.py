"""Fronts: the people whom nobody is strictly over, then those of the others, and lines of strict steps down."""

from laytogether.basics import check_person, check_table, is_number, is_tuple, row_over
from laytogether.tables import widest_odds


def fronts(table):
    """Return the list of the fronts, ascending tuples of people."""
    check_table(table)
    return fronts_of(table)


def count_fronts(table):
    """Return the number of fronts."""
    check_table(table)
    return len(fronts_of(table))


def sizes(table):
    """Return the tuple of how many people each front has."""
    check_table(table)
    return tuple(len(front) for front in fronts_of(table))


def front_of(table, person):
    """Return the number, from 0 on, of a person's front."""
    check_table(table)
    check_person(table, person)
    return [person in front for front in fronts_of(table)].index(True)


def line_down(table, person):
    """Return a longest tuple of people, from a person on, each strictly over the next one."""
    check_table(table)
    check_person(table, person)
    return lines_down(table)[person]


def shows_line(table, person, value):
    """Return whether a value is a longest tuple of people, from a person on, each strictly over the next one."""
    check_table(table)
    check_person(table, person)
    many = len(lines_down(table)[person])
    if not is_tuple(value, many, many) or not all(is_number(thing, 0, len(table) - 1) for thing in value):
        return False
    rows = [table[at] for at in value]
    return value[0] == person and all(strictly_over(before, later) for before, later in zip(rows, rows[1:]))


def steps_over(table, one, other):
    """Return the greatest number of strict steps from one down to the row of other, None without any."""
    check_table(table)
    check_person(table, one)
    check_person(table, other)
    top, bottom = table[one], table[other]
    if not row_over(top, bottom):
        return None
    # A longest line among the rows between both ends at the lower one: all others are strictly over it.
    between = [row for row in table if row_over(top, row) and row_over(row, bottom)]
    return len(lines_down(between)[between.index(top)]) - 1


def count_strict(table):
    """Return how many ordered pairs of people are strictly over."""
    check_table(table)
    return len([True for one in table for other in table if strictly_over(one, other)])


def fewest_towers(table):
    """Return the least number of lots of people that have all, in each of which no two are at odds."""
    # It is as many as the most people any two of whom are at odds (R. Dilworth).
    return len(widest_odds(table))


def strictly_over(one, other):
    """Tell whether a row is over another row that is not the same."""
    return one != other and row_over(one, other)


def fronts_of(table):
    """Return the list of the fronts, without checks."""
    found = []
    left = list(range(len(table)))
    while left:
        rows = [table[person] for person in left]
        front = [person for person in left if not any(strictly_over(row, table[person]) for row in rows)]
        found.append(tuple(front))
        left = [person for person in left if person not in front]
    return found


def lines_down(table):
    """Return the dict from each person to a longest tuple of people, each strictly over the next one."""
    lines = {}
    # A row that is strictly over another one is greater: the lines of lower people are told before.
    for person in sorted(range(len(table)), key=lambda at: table[at]):
        lower = [lines[other] for other in lines if strictly_over(table[person], table[other])]
        lines[person] = (person,) + max(lower, key=len, default=())
    return lines
