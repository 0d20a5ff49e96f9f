"""Tables: their heaps, who is over whom, who is at odds."""

from laytogether.basics import check_good, check_person, check_row, check_table, check_two_people
from laytogether.basics import lots_of, odds_pairs, row_over, rows_at_odds


def people(table):
    """Return how many people a table has."""
    check_table(table)
    return len(table)


def goods(table):
    """Return how many goods a table has."""
    check_table(table)
    return len(table[0])


def heaps(table, good):
    """Return the tuple of the heaps of a good, the greatest ones first."""
    check_table(table)
    check_good(table, good)
    return tuple(sorted([row[good] for row in table], reverse=True))


def totals(table):
    """Return the tuple of the sums of people's heaps."""
    check_table(table)
    return tuple(sum(row) for row in table)


def same_rows(table):
    """Return the list, by their least people, of the ascending tuples of all people who have one row."""
    check_table(table)
    lots = {}
    for person, row in enumerate(table):
        lots.setdefault(row, []).append(person)
    return [tuple(lot) for lot in lots.values()]


def is_over(table, one, other):
    """Return whether one has no lesser heap of any good than other."""
    check_two_people(table, one, other)
    return row_over(table[one], table[other])


def more_of(table, one, other):
    """Return the ascending tuple of the goods of which one has more than other."""
    check_two_people(table, one, other)
    return tuple(good for good, heap in enumerate(table[one]) if heap > table[other][good])


def at_odds(table):
    """Return the ascending list of the pairs of people at odds."""
    check_table(table)
    return odds_pairs(table)


def count_at_odds(table):
    """Return the number of pairs of people at odds."""
    check_table(table)
    return len(odds_pairs(table))


def odds_with(table, person):
    """Return the ascending list of the people with whom a person is at odds."""
    check_table(table)
    check_person(table, person)
    return quarrels(table, table[person])


def quarrelsome(table):
    """Return the greatest number of people with whom one is at odds, and the least such person."""
    check_table(table)
    counts = [len(quarrels(table, row)) for row in table]
    most = max(counts)
    return most, counts.index(most)


def is_tower(table):
    """Return whether nobody is at odds."""
    check_table(table)
    return not odds_pairs(table)


def tops(table):
    """Return the ascending list of the people who are over all."""
    check_table(table)
    return [person for person, row in enumerate(table) if len(under(table, row)) == len(table)]


def bottoms(table):
    """Return the ascending list of the people whom all are over."""
    check_table(table)
    return [person for person, row in enumerate(table) if len(above(table, row)) == len(table)]


def free(table):
    """Return the ascending list of the people whom nobody with another row is over."""
    check_table(table)
    return [person for person, row in enumerate(table) if len(above(table, row)) == table.count(row)]


def highest_tower(table):
    """Return the least of the largest ascending tuples of people no two of whom are at odds."""
    check_table(table)
    pairs = odds_pairs(table)
    return least_largest([lot for lot in lots_of(len(table)) if not pairs_within(pairs, lot)])


def widest_odds(table):
    """Return the least of the largest ascending tuples of people any two of whom are at odds."""
    check_table(table)
    pairs = odds_pairs(table)
    return least_largest([lot for lot in lots_of(len(table)) if len(pairs_within(pairs, lot)) == count_pairs(lot)])


def place(table, row):
    """Return how many people a row is over."""
    check_table(table)
    check_row(table, row)
    return len(under(table, row))


def fits(table, row):
    """Return whether a row is at odds with nobody."""
    check_table(table)
    check_row(table, row)
    return not quarrels(table, row)


def under(table, row):
    """Return the ascending list of the people whom a row is over."""
    return [person for person, other in enumerate(table) if row_over(row, other)]


def above(table, row):
    """Return the ascending list of the people who are over a row."""
    return [person for person, other in enumerate(table) if row_over(other, row)]


def quarrels(table, row):
    """Return the ascending list of the people with whom a row is at odds."""
    return [person for person, other in enumerate(table) if rows_at_odds(row, other)]


def pairs_within(pairs, lot):
    """Return those of the pairs of which both people are in a lot."""
    return [pair for pair in pairs if pair[0] in lot and pair[1] in lot]


def count_pairs(lot):
    """Return how many pairs of people a lot has."""
    return len(lot) * (len(lot) - 1) // 2


def least_largest(lots):
    """Return the least of the largest ones of some tuples."""
    largest = max([len(lot) for lot in lots])
    return min([lot for lot in lots if len(lot) == largest])
