"""Numbers of the tables and crowds that have told heaps, and chances of what is drawn among them."""

from math import factorial

from laytogether.basics import check_heaps, choices, crowd_of, nexts_of, odds_pairs, ratio, tally, tower_of
from laytogether.errors import TooMany

MOST_TABLES = 5000


def count_tables(heaps):
    """Return how many tables have told heaps."""
    check_heaps(heaps)
    return number_of_tables(heaps)


def all_tables(heaps):
    """Return the ascending list of the tables that have told heaps."""
    check_few_tables(heaps)
    return tables_with(heaps)


def all_crowds(heaps):
    """Return the ascending list of the crowds that have told heaps."""
    check_few_tables(heaps)
    return crowds_with(heaps)


def count_crowds(heaps):
    """Return how many crowds have told heaps."""
    check_few_tables(heaps)
    return len(crowds_with(heaps))


def count_by_odds(heaps):
    """Return the tuple of how many of the tables have 0, 1, .. pairs at odds."""
    check_few_tables(heaps)
    return tally([count_odds(table) for table in tables_with(heaps)])


def crowds_by_odds(heaps):
    """Return the tuple of how many of the crowds have 0, 1, .. pairs at odds."""
    check_few_tables(heaps)
    return tally([count_odds(told) for told in crowds_with(heaps)])


def most_quarrels(heaps):
    """Return the greatest number of pairs at odds, and the least crowd with it."""
    check_few_tables(heaps)
    told_crowds = crowds_with(heaps)
    most = max([count_odds(told) for told in told_crowds])
    return most, min([told for told in told_crowds if count_odds(told) == most])


def count_sources(heaps):
    """Return how many of the crowds are made by no deed."""
    check_few_tables(heaps)
    told_crowds = crowds_with(heaps)
    made = {later: True for told in told_crowds for later in nexts_of(told)}
    return len([told for told in told_crowds if told not in made])


def count_deeds(heaps):
    """Return how many pairs of crowds there are the second of which one deed makes of the first."""
    check_few_tables(heaps)
    return sum(len(nexts_of(told)) for told in crowds_with(heaps))


def longest_row(heaps):
    """Return the greatest number of deeds in a row."""
    check_few_tables(heaps)
    longest = {}
    # Each deed makes the pairs at odds fewer: what is made of a crowd is told before it.
    for told in sorted(crowds_with(heaps), key=count_odds):
        longest[told] = max([longest[later] + 1 for later in nexts_of(told)], default=0)
    return max(longest.values())


def odds_chance(heaps):
    """Return the chance that two told people are at odds, a ratio."""
    check_heaps(heaps)
    at_odds, pairs = odds_parts(heaps)
    return ratio(at_odds, pairs)


def mean_odds(heaps):
    """Return the mean number of pairs at odds, a ratio."""
    check_heaps(heaps)
    many = len(heaps[0])
    at_odds, pairs = odds_parts(heaps)
    # Any two people are at odds with the same chance.
    return ratio(at_odds * (many * (many - 1) // 2), pairs)


def top_chance(heaps):
    """Return the chance that a told person is over all, a ratio."""
    check_heaps(heaps)
    chosen = everything = 1
    for told in heaps:
        chosen = chosen * told.count(max(told))
        everything = everything * len(told)
    return ratio(chosen, everything)


def tower_chance(heaps):
    """Return the chance that a drawn table is a tower, a ratio."""
    check_heaps(heaps)
    tower = tower_of(tuple(zip(*heaps)))
    return ratio(count_orders(tower), number_of_tables(heaps))


def meet_chance(heaps):
    """Return the chance that two drawn tables have one crowd, a ratio."""
    check_few_tables(heaps)
    everything = number_of_tables(heaps)
    return ratio(sum(count_orders(told) ** 2 for told in crowds_with(heaps)), everything ** 2)


def check_few_tables(heaps):
    """Raise the first error of told heaps that only few tables may have."""
    check_heaps(heaps)
    if number_of_tables(heaps) > MOST_TABLES:
        raise TooMany(MOST_TABLES)


def count_orders(things):
    """Return in how many orders things can stand, equal ones not told apart."""
    counts = {}
    for thing in things:
        counts[thing] = counts.get(thing, 0) + 1
    orders = factorial(len(things))
    for count in counts.values():
        orders = orders // factorial(count)
    return orders


def number_of_tables(heaps):
    """Return how many tables have told heaps, without checks."""
    number = 1
    for told in heaps:
        number = number * count_orders(told)
    return number


def orders_of(told):
    """Return the list of the different orders of a tuple of heaps."""
    if not told:
        return [()]
    found = []
    for heap in sorted(set(told)):
        at = told.index(heap)
        found.extend([(heap,) + rest for rest in orders_of(told[:at] + told[at + 1:])])
    return found


def tables_with(heaps):
    """Return the ascending list of the tables that have told heaps, without checks."""
    return sorted([tuple(zip(*columns)) for columns in choices([orders_of(told) for told in heaps])])


def crowds_with(heaps):
    """Return the ascending list of the crowds that have told heaps, without checks."""
    return sorted({crowd_of(table) for table in tables_with(heaps)})


def count_odds(table):
    """Return the number of pairs at odds."""
    return len(odds_pairs(table))


def odds_parts(heaps):
    """Return how many ways to draw two told people's heaps make them at odds, and how many ways there are."""
    many = len(heaps[0])
    if many == 1:
        return 0, 1
    over = same = everything = 1
    for told in heaps:
        pairs = [(told[one], told[other]) for one in range(many) for other in range(many) if one != other]
        over = over * len([mine for mine, yours in pairs if mine >= yours])
        same = same * len([mine for mine, yours in pairs if mine == yours])
        everything = everything * len(pairs)
    # Each is over the other one as often; rows that are the same would be taken away twice.
    return everything - 2 * over + same, everything
