"""What comes ahead: the crowds of which deeds make that of a table."""

from itertools import combinations

from laytogether.basics import MOST_CROWDS, check_row, check_table, crowd_of, nexts_of, pairs_of, row_over
from laytogether.basics import walk, with_rows
from laytogether.errors import NotOver


def splits(table, one, other):
    """Return the ascending list of the pairs of rows at odds, the greater first, that a deed makes to two rows."""
    check_rows(table, one, other)
    return splits_of(one, other)


def count_splits(table, one, other):
    """Return the number of the pairs of rows at odds that a deed makes to two rows."""
    check_rows(table, one, other)
    return len(splits_of(one, other))


def befores(table):
    """Return the ascending list of the crowds of which one deed makes that of a table."""
    check_table(table)
    return befores_of(crowd_of(table))


def count_befores(table):
    """Return the number of the crowds of which one deed makes that of a table."""
    check_table(table)
    return len(befores_of(crowd_of(table)))


def is_source(table):
    """Return whether no deed makes the crowd of a table."""
    check_table(table)
    return not befores_of(crowd_of(table))


def all_befores(table):
    """Return the ascending list of the crowds of which deeds make that of a table, it among them."""
    check_table(table)
    steps, _ = walk_up(table)
    return sorted(steps)


def sources(table):
    """Return the ascending list of the crowds of which deeds make that of a table and that no deed makes."""
    check_table(table)
    _, links = walk_up(table)
    return sorted([before for before in links if not links[before]])


def farthest_before(table):
    """Return the greatest least number of deeds from a crowd to that of a table, and the least such crowd."""
    check_table(table)
    steps, _ = walk_up(table)
    most = max(steps.values())
    return most, min([before for before in steps if steps[before] == most])


def between(one, other):
    """Return the ascending list of the crowds that deeds make of one and of which they make other."""
    check_table(one)
    check_table(other)
    steps, _ = walk_up(other)
    start = crowd_of(one)
    if start not in steps:
        return []

    def nexts_there(table):
        """Return the crowds that one deed makes and that come to other: all on the ways there are such."""
        return [made for made in nexts_of(table) if made in steps]

    found, _ = walk(start, nexts_there, MOST_CROWDS)
    return sorted(found)


def meetings(one, other):
    """Return the ascending list of the crowds that deeds make of both and of no other such crowd."""
    check_table(one)
    check_table(other)
    met, links = walk(crowd_of(one), nexts_of, MOST_CROWDS)
    met_too, _ = walk(crowd_of(other), nexts_of, MOST_CROWDS)
    both = [told for told in met if told in met_too]
    # What is made of a crowd that both meet is met by both, too: one deed tells what many deeds would.
    made = {later: True for told in both for later in links[told]}
    return sorted([told for told in both if told not in made])


def check_rows(table, one, other):
    """Raise the first error of a table and two rows as those of it, the first one over the second one."""
    check_table(table)
    check_row(table, one)
    check_row(table, other)
    if not row_over(one, other):
        raise NotOver("the first row is not over the second one")


def splits_of(one, other):
    """Return the ascending list of the pairs of rows at odds of which a deed makes two rows, one over other."""
    unlike = [good for good, heap in enumerate(one) if heap != other[good]]
    # The greater row of a pair keeps the first unlike heap; the others may change sides, but not none of them.
    lots = [lot for size in range(1, len(unlike)) for lot in combinations(unlike[1:], size)]
    return sorted([(exchanged(one, other, lot), exchanged(other, one, lot)) for lot in lots])


def exchanged(row, other, lot):
    """Return a row with the heaps of another one of some goods."""
    return tuple(other[good] if good in lot else heap for good, heap in enumerate(row))


def befores_of(told):
    """Return the ascending list of the crowds of which one deed makes a crowd."""
    # The rows of a crowd go down: of two of them only the first one can be over an unlike one.
    pairs = [(one, other) for one, other in pairs_of(told) if row_over(told[one], told[other])]
    return sorted({
        crowd_of(with_rows(told, one, other, rows))
        for one, other in pairs
        for rows in splits_of(told[one], told[other])
    })


def walk_up(table):
    """Tell all crowds of which deeds make that of a table, as walk tells it."""
    return walk(crowd_of(table), befores_of, MOST_CROWDS)
