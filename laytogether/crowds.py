"""Crowds: what deeds make of them, and the ways from one to another."""

from laytogether.basics import MOST_CROWDS, are_like, check_like, check_table, crowd_of, is_table, is_tuple
from laytogether.basics import nexts_of, odds_pairs, tally, tower_of, walk


def crowd(table):
    """Return the rows of a table, the greatest ones first."""
    check_table(table)
    return crowd_of(table)


def next_crowds(table):
    """Return the ascending list of the different crowds that one deed makes."""
    check_table(table)
    return nexts_of(table)


def is_deed(one, other):
    """Return whether one deed makes the crowd of other of that of one."""
    check_table(one)
    check_table(other)
    return crowd_of(other) in nexts_of(one)


def tower(table):
    """Return the crowd at which all deeds end."""
    check_table(table)
    return tower_of(table)


def come_together(one, other):
    """Return whether two tables have as many people and goods and the same tower."""
    check_table(one)
    check_table(other)
    return are_like(one, other) and tower_of(one) == tower_of(other)


def all_met(table):
    """Return the ascending list of the crowds that deeds make, the table's own among them."""
    check_table(table)
    steps, _ = walk_down(table)
    return sorted(steps)


def count_met(table):
    """Return the number of the crowds that deeds make, the table's own among them."""
    check_table(table)
    steps, _ = walk_down(table)
    return len(steps)


def count_by_odds(table):
    """Return the tuple of how many of the crowds that deeds make have 0, 1, .. pairs at odds."""
    check_table(table)
    steps, _ = walk_down(table)
    return tally([len(odds_pairs(met)) for met in steps])


def can_come(one, other):
    """Return whether deeds make the crowd of other of that of one."""
    check_like(one, other)
    steps, _ = walk_down(one)
    return crowd_of(other) in steps


def least_deeds(one, other):
    """Return the least number of deeds from one to other, None if there is no way."""
    check_like(one, other)
    steps, _ = walk_down(one)
    return steps.get(crowd_of(other))


def most_deeds(one, other):
    """Return the greatest number of deeds from one to other, None if there is no way."""
    check_like(one, other)
    _, links = walk_down(one)
    most = {crowd_of(one): 0}
    for met in most_odds_first(links):
        for made in links[met]:
            most[made] = max(most.get(made, 0), most[met] + 1)
    return most.get(crowd_of(other))


def count_ways(one, other):
    """Return how many rows of crowds, each a deed from the one before, lead from one to other."""
    check_like(one, other)
    _, links = walk_down(one)
    ways = {crowd_of(one): 1}
    for met in most_odds_first(links):
        for made in links[met]:
            ways[made] = ways.get(made, 0) + ways[met]
    return ways.get(crowd_of(other), 0)


def way(one, other):
    """Return a tuple of crowds with fewest deeds from one to other, None if there is none."""
    check_like(one, other)
    steps, links = walk_down(one)
    goal = crowd_of(other)
    if goal not in steps:
        return None
    back = [goal]
    # The walk goes by steps: behind a crowd of k deeds, backward, the first one that leads to it has k - 1.
    for met in reversed(list(links)):
        if back[-1] in links[met] and steps[met] == steps[back[-1]] - 1:
            back.append(met)
    return tuple(reversed(back))


def shows_way(one, other, value):
    """Return whether a value is a way with fewest deeds, or None where there is none."""
    check_like(one, other)
    steps, links = walk_down(one)
    goal = crowd_of(other)
    if goal not in steps:
        return value is None
    many = steps[goal] + 1
    if not is_tuple(value, many, many) or not all(is_table(thing) for thing in value):
        return False
    if value[0] != crowd_of(one) or value[-1] != goal:
        return False
    return all(later in links[before] for before, later in zip(value, value[1:]))


def walk_down(table):
    """Tell all that deeds make of the crowd of a table, as walk tells it."""
    return walk(crowd_of(table), nexts_of, MOST_CROWDS)


def most_odds_first(crowds):
    """Return the list of crowds by their numbers of pairs at odds: each stands behind all that lead to it."""
    return sorted(crowds, key=lambda told: -len(odds_pairs(told)))
