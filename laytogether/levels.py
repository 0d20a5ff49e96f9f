"""Levels of goods: tables cut at them, and tables squeezed to the places of their heaps."""

from laytogether.basics import MOST_GOODS, are_like, check_table, choices, crowd_of, is_heap_tuple, odds_pairs, tower_of
from laytogether.errors import BadLevels


def cut(table, levels):
    """Return the table of 0 and 1 that tells who has at least the level of each good."""
    check_levels(table, levels)
    return cut_at(table, levels)


def counts_at(table, levels):
    """Return the tuple of how many people have at least the level of each good."""
    check_levels(table, levels)
    rows = cut_at(table, levels)
    return tuple(sum(column) for column in zip(*rows))


def both_at(table, levels):
    """Return how many people have at least the level of all goods."""
    check_levels(table, levels)
    return len([row for row in cut_at(table, levels) if all(row)])


def tower_at(table, levels):
    """Return the tower of the table cut at levels."""
    check_levels(table, levels)
    return tower_of(cut_at(table, levels))


def alike_at(one, other, levels):
    """Return whether two tables are like and, cut at levels of the goods of one, have one crowd."""
    check_table(one)
    check_table(other)
    check_levels(one, levels)
    return are_like(one, other) and crowd_of(cut_at(one, levels)) == crowd_of(cut_at(other, levels))


def is_tower_by_levels(table):
    """Return whether all cuts at levels that are heaps of their goods are towers."""
    check_table(table)
    return first_quarrel(table) is None


def quarrel_levels(table):
    """Return the least tuple of levels that are heaps of their goods whose cut is no tower, None without one."""
    check_table(table)
    return first_quarrel(table)


def squeezed(table):
    """Return the table in which each heap is changed for how many unlike lesser heaps of its good there are."""
    check_table(table)
    return squeezed_of(table)


def is_squeezed(table):
    """Return whether squeezing changes nothing."""
    check_table(table)
    return squeezed_of(table) == table


def check_levels(table, levels):
    """Raise the first error of a table and levels of its goods."""
    check_table(table)
    # A level has the bounds of a heap.
    if not is_heap_tuple(levels, MOST_GOODS) or len(levels) != len(table[0]):
        raise BadLevels("no levels of the goods of the table")


def cut_at(table, levels):
    """Return the table of 0 and 1 that tells who has at least the level of each good, without checks."""
    return tuple(tuple(int(heap >= level) for heap, level in zip(row, levels)) for row in table)


def unlike_heaps(table):
    """Return the list of the ascending lists of the unlike heaps of each good."""
    return [sorted(set(column)) for column in zip(*table)]


def first_quarrel(table):
    """Return the least tuple of levels that are heaps of their goods whose cut is no tower, or None."""
    for levels in choices(unlike_heaps(table)):
        if odds_pairs(cut_at(table, levels)):
            return levels
    return None


def squeezed_of(table):
    """Return the table of the places of heaps among the unlike heaps of their goods, without checks."""
    places = unlike_heaps(table)
    return tuple(tuple(told.index(heap) for told, heap in zip(places, row)) for row in table)
