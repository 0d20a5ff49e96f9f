"""Two goods with unlike heaps of each: crowds told as orders of numbers, deeds as numbers that change places."""

from itertools import permutations

from laytogether.basics import MOST_PEOPLE, check_number, check_table, crowd_of, is_order, is_tuple, pairs_of, tally
from laytogether.basics import tower_of, walk
from laytogether.errors import BadOrder, NotLike

MOST_ORDERS = 720


def order(table):
    """Return, for the people by the first good, greatest first, how many have more of the second one."""
    check_two_good(table)
    return order_of(table)


def from_order(told):
    """Return the crowd with an order whose heaps of both goods are 0, 1, .."""
    if not is_tuple(told, 1, MOST_PEOPLE) or not is_order(told, len(told)):
        raise BadOrder("no order of 1 to 6 numbers")
    last = len(told) - 1
    return tuple((last - place, last - number) for place, number in enumerate(told))


def next_orders(table):
    """Return the ascending list of the orders that one deed makes."""
    check_two_good(table)
    return sorted(nexts_of_order(order_of(table)))


def rings(table):
    """Return the list, by their least places, of the ascending tuples of places that come round."""
    check_two_good(table)
    return rings_of(order_of(table))


def least_by_rings(table):
    """Return people less rings: the least number of deeds to the tower."""
    check_two_good(table)
    return len(table) - len(rings_of(order_of(table)))


def most_by_odds(table):
    """Return the number of pairs at odds: the greatest number of deeds to the tower."""
    check_two_good(table)
    return len(pairs_down(order_of(table)))


def can_come_by_counts(one, other):
    """Return whether deeds make the crowd of other of that of one, told by counts of first numbers."""
    check_table(one)
    check_table(other)
    check_two_good(one)
    check_two_good(other)
    if tower_of(one) != tower_of(other):
        return False
    before, later = order_of(one), order_of(other)
    numbers = range(1, len(one))
    # Deeds bring lesser numbers forward: no count of lesser ones among the first numbers becomes less.
    return all([lesser(before, many, bound) <= lesser(later, many, bound) for many in numbers for bound in numbers])


def count_below(table):
    """Return the number of the crowds that deeds make, the table's own among them."""
    check_two_good(table)
    # Six people have no more orders, so this is never too many.
    steps, _ = walk(order_of(table), nexts_of_order, MOST_ORDERS)
    return len(steps)


def count_orders_by_odds(many):
    """Return the tuple of how many orders of so many people have 0, 1, .. pairs at odds."""
    check_number(many, 1, MOST_PEOPLE)
    return tally([len(pairs_down(told)) for told in permutations(range(many))])


def count_orders_by_rings(many):
    """Return the tuple of how many orders of so many people need 0, 1, .. deeds at least."""
    check_number(many, 1, MOST_PEOPLE)
    return tally([many - len(rings_of(told)) for told in permutations(range(many))])


def check_two_good(table):
    """Raise the first error of a table that is to have two goods with unlike heaps of each."""
    check_table(table)
    if len(table[0]) != 2 or any(len(set(column)) < len(table) for column in zip(*table)):
        raise NotLike("the table has not two goods with unlike heaps of each")


def order_of(table):
    """Return how many have more of the second good, for the people by the first one, without checks."""
    heaps = sorted([row[1] for row in table], reverse=True)
    return tuple(heaps.index(row[1]) for row in crowd_of(table))


def pairs_down(told):
    """Return the list of the pairs of places the first of which has the greater number: these are at odds."""
    return [(one, other) for one, other in pairs_of(told) if told[one] > told[other]]


def nexts_of_order(told):
    """Return the list of the orders that one deed makes of an order: two numbers change places."""
    made = []
    for one, other in pairs_down(told):
        numbers = list(told)
        numbers[one], numbers[other] = told[other], told[one]
        made.append(tuple(numbers))
    return made


def rings_of(told):
    """Return the list, by their least places, of the ascending tuples of places that an order takes round."""
    found = []
    for start in range(len(told)):
        ring = [start]
        while told[ring[-1]] != start:
            ring.append(told[ring[-1]])
        # Each ring is come upon from all of its places; it is kept once, from its least one.
        if start == min(ring):
            found.append(tuple(sorted(ring)))
    return found


def lesser(told, many, bound):
    """Return how many of the first numbers, so many of them, are less than a bound."""
    return len([number for number in told[:many] if number < bound])
