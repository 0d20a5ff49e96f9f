"""Sums that rise: squares of sums of heaps, which deeds make greater, and goods that hang together."""

from itertools import combinations

from laytogether.basics import check_good, check_heaps, check_person, check_table, check_two_people, crowd_of, laid
from laytogether.basics import odds_pairs, tower_of
from laytogether.errors import NotTwo


def squares(table):
    """Return the sum of the squares of the sums of people's heaps."""
    check_table(table)
    return squares_of(table)


def most_squares(table):
    """Return the sum of the squares of the sums of people's heaps of the tower."""
    check_table(table)
    return squares_of(tower_of(table))


def left_to_rise(table):
    """Return by how much the squares of the tower are more than those of a table."""
    check_table(table)
    return squares_of(tower_of(table)) - squares_of(table)


def rise(table, one, other):
    """Return by how much a lay of both raises the squares."""
    check_two_people(table, one, other)
    return rise_of(table, one, other)


def rise_by_goods(table, one, other):
    """Return twice the product of the sums of what each of two people has more of."""
    check_two_people(table, one, other)
    return 2 * sum_of_more(table[one], table[other]) * sum_of_more(table[other], table[one])


def greatest_rise(table):
    """Return the greatest rise by two people at odds and the least such pair of them, None for a tower."""
    check_table(table)
    return greatest_of(table)


def least_rise(table):
    """Return the least rise by two people at odds, None for a tower."""
    check_table(table)
    return min([rise_of(table, one, other) for one, other in odds_pairs(table)], default=None)


def climb(table):
    """Return the list of crowds from that of a table to the tower, each made by the greatest rise of the one before."""
    check_table(table)
    crowds = [crowd_of(table)]
    while greatest_of(crowds[-1]) is not None:
        _, (one, other) = greatest_of(crowds[-1])
        crowds.append(crowd_of(laid(crowds[-1], one, other)))
    return crowds


def bond(table, one, other):
    """Return the sum over people of the product of their heaps of two goods."""
    check_two_goods(table, one, other)
    return bond_of(table, one, other)


def most_bond(table, one, other):
    """Return the bond of two goods of the tower."""
    check_two_goods(table, one, other)
    return bond_of(tower_of(table), one, other)


def least_bond(table, one, other):
    """Return the least bond of two goods of a table with the same heaps of each good."""
    check_two_goods(table, one, other)
    # It is least where those who have most of one good have least of the other one.
    rising = sorted([row[one] for row in table])
    falling = sorted([row[other] for row in table], reverse=True)
    return sum(mine * yours for mine, yours in zip(rising, falling))


def hang_together(table, one, other):
    """Return whether nobody has more of one good and less of the other one than somebody else."""
    check_two_goods(table, one, other)
    return hanging(table, one, other)


def goods_apart(table):
    """Return the ascending list of the pairs of goods that do not hang together."""
    check_table(table)
    pairs = list(combinations(range(len(table[0])), 2))
    return [(one, other) for one, other in pairs if not hanging(table, one, other)]


def share(table, person):
    """Return the tuple of how many people have less of each good than a person."""
    check_table(table)
    check_person(table, person)
    return tuple(len([row for row in table if row[good] < heap]) for good, heap in enumerate(table[person]))


def middle_good(table):
    """Return the tuple of the middle heaps of each good, the lesser of two."""
    check_table(table)
    middle = (len(table) - 1) // 2
    return tuple(sorted(column)[middle] for column in zip(*table))


def spans(heaps):
    """Return the tuple of the greatest less the least heap of each good."""
    check_heaps(heaps)
    return tuple(max(told) - min(told) for told in heaps)


def check_two_goods(table, one, other):
    """Raise the first error of a table and two unlike goods of it."""
    check_table(table)
    check_good(table, one)
    check_good(table, other)
    if one == other:
        raise NotTwo("one good told twice")


def squares_of(table):
    """Return the sum of the squares of the sums of people's heaps, without checks."""
    return sum(sum(row) ** 2 for row in table)


def rise_of(table, one, other):
    """Return by how much a lay of both raises the squares, without checks."""
    return squares_of(laid(table, one, other)) - squares_of(table)


def sum_of_more(row, other):
    """Return the sum of what a row has more of than another one."""
    return sum(max(mine - yours, 0) for mine, yours in zip(row, other))


def greatest_of(table):
    """Return the greatest rise by two people at odds and the least such pair of them, or None, without checks."""
    rises = [(rise_of(table, one, other), (one, other)) for one, other in odds_pairs(table)]
    # Of equal ones max takes the first, and the pairs are ascending.
    return max(rises, key=lambda told: told[0], default=None)


def bond_of(table, one, other):
    """Return the sum over people of the product of their heaps of two goods, without checks."""
    return sum(row[one] * row[other] for row in table)


def hanging(table, one, other):
    """Tell whether two goods hang together."""
    return not odds_pairs([(row[one], row[other]) for row in table])
