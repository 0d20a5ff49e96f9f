"""Papers: crowds written down one behind another, each a deed from the one before, and what is wrong with them."""

from laytogether.basics import check_table, crowd_of, is_table, laid, nexts_of, odds_pairs, tower_of
from laytogether.crowds import come_together


def to_tower(table):
    """Return a tuple of crowds from that of a table to its tower, each a deed from the one before."""
    check_table(table)
    return tuple(plain_way(table))


def shows_to_tower(table, value):
    """Return whether a value is a tuple of crowds from a table to its tower, each a deed from the one before."""
    check_table(table)
    return wrong_at(value) is None and value[0] == crowd_of(table) and value[-1] == tower_of(table)


def pairs_written(table):
    """Return the tuple of the pairs of rows that lay together if each time the least pair at odds does."""
    check_table(table)
    pairs = []
    for told in plain_way(table)[:-1]:
        one, other = odds_pairs(told)[0]
        pairs.append((told[one], told[other]))
    return tuple(pairs)


def over_and_back(one, other):
    """Return a tuple of crowds from one to other by deeds, done and taken back, None if they do not come together."""
    if not come_together(one, other):
        return None
    back = plain_way(other)[::-1]
    return tuple(plain_way(one) + back[1:])


def shows_over_and_back(one, other, value):
    """Return whether a value leads from one to other by deeds, done and taken back, or is None without such a way."""
    if not come_together(one, other):
        return value is None
    if not isinstance(value, tuple) or not value or not all(is_crowd(thing) for thing in value):
        return False
    if value[0] != crowd_of(one) or value[-1] != crowd_of(other):
        return False
    return all(makes(before, later) or makes(later, before) for before, later in zip(value, value[1:]))


def first_wrong(value):
    """Return the index of the first thing of a tuple that is no crowd, or no deed from the one before, or None.

    It is 0 for values that are not a tuple of at least one thing.
    """
    return wrong_at(value)


def more_counts(table):
    """Return the tuple, for each person, of the tuple of how many people have more of each good."""
    check_table(table)
    columns = list(zip(*table))
    return tuple(tuple(count_more(column, heap) for column, heap in zip(columns, row)) for row in table)


def plain_way(table):
    """Return the list of crowds from that of a table to its tower if each time the least pair at odds does a deed."""
    crowds = [crowd_of(table)]
    pairs = odds_pairs(crowds[-1])
    while pairs:
        one, other = pairs[0]
        crowds.append(crowd_of(laid(crowds[-1], one, other)))
        pairs = odds_pairs(crowds[-1])
    return crowds


def wrong_at(value):
    """Return the index of the first thing that cannot stand among crowds, each a deed from the one before, or None."""
    if not isinstance(value, tuple) or not value:
        return 0
    for index, thing in enumerate(value):
        if not is_crowd(thing) or (index > 0 and not makes(value[index - 1], thing)):
            return index
    return None


def is_crowd(value):
    """Tell whether a value is a table that is a crowd."""
    return is_table(value) and crowd_of(value) == value


def makes(before, later):
    """Tell whether one deed makes a crowd of another one."""
    return later in nexts_of(before)


def count_more(column, heap):
    """Return how many heaps of a column are more than a heap."""
    return len([other for other in column if other > heap])
