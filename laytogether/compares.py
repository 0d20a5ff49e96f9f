"""Two tables beside one another, and what it costs to come to an order of people."""

from itertools import permutations

from laytogether.basics import check_like, check_table, crowd_of, is_order, odds_pairs, pairs_of, row_over
from laytogether.fronts import strictly_over
from laytogether.lays import ordered


def same_heaps(one, other):
    """Return the ascending tuple of the goods of which both tables have the same heaps."""
    check_like(one, other)
    return tuple(good for good in range(len(one[0])) if sorted_heaps(one, good) == sorted_heaps(other, good))


def unlike_people(one, other):
    """Return the ascending tuple of the people whose rows differ."""
    check_like(one, other)
    return tuple(person for person, row in enumerate(one) if row != other[person])


def same_odds(one, other):
    """Return whether the same pairs are at odds in both tables."""
    check_like(one, other)
    return odds_pairs(one) == odds_pairs(other)


def is_crowd_of(one, other):
    """Return whether both tables have one crowd."""
    check_like(one, other)
    return crowd_of(one) == crowd_of(other)


def names_for(one, other):
    """Return the least tuple of an unlike person of other with the same row for each one of one, None without one."""
    check_like(one, other)
    names = []
    for row in one:
        # Whom of several with this row an earlier person takes does not matter to later ones.
        left = [person for person, same in enumerate(other) if same == row and person not in names]
        if not left:
            return None
        names.append(left[0])
    return tuple(names)


def over_all_of(one, other):
    """Return whether each person of one is over the same person of other."""
    check_like(one, other)
    return all(row_over(mine, yours) for mine, yours in zip(one, other))


def greater(one, other):
    """Return the table of the greater heaps of two tables."""
    check_like(one, other)
    return tuple(tuple(max(heaps) for heaps in zip(mine, yours)) for mine, yours in zip(one, other))


def lesser(one, other):
    """Return the table of the lesser heaps of two tables."""
    check_like(one, other)
    return tuple(tuple(min(heaps) for heaps in zip(mine, yours)) for mine, yours in zip(one, other))


def moved(one, other):
    """Return the sum of the differences of all heaps, without signs."""
    check_like(one, other)
    return difference(one, other)


def to_order(table, order):
    """Return half of the sum of the differences of a table and in_order, None for a value that is no order."""
    check_table(table)
    if not is_order(order, len(table)):
        return None
    return cost(table, order)


def cheapest_order(table):
    """Return the least pair (half of the sum of the differences to in_order of an order, order)."""
    check_table(table)
    return min([(cost(table, order), order) for order in permutations(range(len(table)))])


def agreeing_orders(table):
    """Return the ascending list of the orders in which nobody stands ahead of one who is strictly over them."""
    check_table(table)
    return agreeing(table)


def count_agreeing(table):
    """Return the number of the orders in which nobody stands ahead of one who is strictly over them."""
    check_table(table)
    return len(agreeing(table))


def sorted_heaps(table, good):
    """Return the ascending list of the heaps of a good."""
    return sorted([row[good] for row in table])


def difference(one, other):
    """Return the sum of the differences of all heaps of two tables, without signs."""
    return sum(abs(mine - yours) for row, same in zip(one, other) for mine, yours in zip(row, same))


def cost(table, order):
    """Return half of the sum of the differences of a table and in_order of an order."""
    # What some have to get others have to give: the sum is even.
    return difference(table, ordered(table, order)) // 2


def agreeing(table):
    """Return the ascending list of the orders that agree with who is strictly over whom."""
    return [order for order in permutations(range(len(table))) if agrees(table, order)]


def agrees(table, order):
    """Tell whether in an order nobody stands ahead of one who is strictly over them."""
    rows = [table[person] for person in order]
    return not any(strictly_over(rows[later], rows[before]) for before, later in pairs_of(rows))
