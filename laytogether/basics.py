"""What the other modules share: checks of arguments, and rows, crowds and walks without checks."""

from itertools import combinations
from math import gcd

from laytogether.errors import BadGood, BadHeaps, BadLays, BadNumber, BadOrder, BadPerson, BadRow, BadTable
from laytogether.errors import NotLike, NotTwo, TooMany

MOST_PEOPLE = 6
MOST_GOODS = 5
MOST_HEAP = 99
MOST_LAYS = 60
MOST_CROWDS = 3000


def is_number(value, least, most):
    """Tell whether a value is an integer within bounds."""
    # True and False are integers in Python, but not in the document.
    return isinstance(value, int) and not isinstance(value, bool) and least <= value <= most


def is_tuple(value, least, most):
    """Tell whether a value is a tuple of least to most things."""
    return isinstance(value, tuple) and least <= len(value) <= most


def is_heap_tuple(value, most):
    """Tell whether a value is a tuple of 1 to most heaps."""
    return is_tuple(value, 1, most) and all(is_number(heap, 0, MOST_HEAP) for heap in value)


def uneven_at(things, most):
    """Return the index of the first thing that has not 1 to most heaps, as many as the first one, or None."""
    for index, thing in enumerate(things):
        if not is_heap_tuple(thing, most) or len(thing) != len(things[0]):
            return index
    return None


def is_table(value):
    """Tell whether a value is a table."""
    return is_tuple(value, 1, MOST_PEOPLE) and uneven_at(value, MOST_GOODS) is None


def check_table(table):
    """Raise BadTable for a value that is no table."""
    if not is_tuple(table, 1, MOST_PEOPLE):
        raise BadTable(None)
    index = uneven_at(table, MOST_GOODS)
    if index is not None:
        raise BadTable(index)


def check_heaps(heaps):
    """Raise BadHeaps for a value that tells no heaps."""
    if not is_tuple(heaps, 1, MOST_GOODS):
        raise BadHeaps(None)
    index = uneven_at(heaps, MOST_PEOPLE)
    if index is not None:
        raise BadHeaps(index)


def check_person(table, person):
    """Raise BadPerson for a value that is no person of a table."""
    if not is_number(person, 0, len(table) - 1):
        raise BadPerson("no person of the table")


def check_good(table, good):
    """Raise BadGood for a value that is no good of a table."""
    if not is_number(good, 0, len(table[0]) - 1):
        raise BadGood("no good of the table")


def check_row(table, row):
    """Raise BadRow for a value that is no row as those of a table."""
    if not is_heap_tuple(row, MOST_GOODS) or len(row) != len(table[0]):
        raise BadRow("no row as those of the table")


def check_number(value, least, most):
    """Raise BadNumber for a value that is no integer within bounds."""
    if not is_number(value, least, most):
        raise BadNumber(f"no number from {least} to {most}")


def is_order(value, many):
    """Tell whether a value is a tuple of the numbers 0, 1, .., so many, in some order."""
    numbers = is_tuple(value, many, many) and all(is_number(number, 0, many - 1) for number in value)
    return numbers and sorted(value) == list(range(many))


def check_order(table, order):
    """Raise BadOrder for a value that is not all people of a table in some order."""
    if not is_order(order, len(table)):
        raise BadOrder("no order of the people of the table")


def is_lay(value, many):
    """Tell whether a value is a pair of two unlike people of so many."""
    people = is_tuple(value, 2, 2) and all(is_number(person, 0, many - 1) for person in value)
    return people and value[0] != value[1]


def is_lays(value, many):
    """Tell whether a value is a tuple of lays of so many people."""
    return is_tuple(value, 0, MOST_LAYS) and all(is_lay(pair, many) for pair in value)


def check_lays(lays, many):
    """Raise BadLays for a value that is no tuple of lays of so many people."""
    if not is_tuple(lays, 0, MOST_LAYS):
        raise BadLays(None)
    for index, pair in enumerate(lays):
        if not is_lay(pair, many):
            raise BadLays(index)


def check_two_people(table, one, other):
    """Raise the first error of a table and two unlike people of it."""
    check_table(table)
    check_person(table, one)
    check_person(table, other)
    if one == other:
        raise NotTwo("one person told twice")


def are_like(one, other):
    """Tell whether two tables have as many people and as many goods."""
    return len(one) == len(other) and len(one[0]) == len(other[0])


def check_like(one, other):
    """Raise the first error of two tables that are to be like."""
    check_table(one)
    check_table(other)
    if not are_like(one, other):
        raise NotLike("the tables are not like")


def row_over(one, other):
    """Tell whether a row has no lesser heap than another one."""
    return all(mine >= yours for mine, yours in zip(one, other))


def rows_at_odds(one, other):
    """Tell whether neither of two rows is over the other one."""
    return not row_over(one, other) and not row_over(other, one)


def pairs_of(table):
    """Return the ascending list of the pairs of people, the lesser one first."""
    return list(combinations(range(len(table)), 2))


def odds_pairs(table):
    """Return the ascending list of the pairs of people at odds."""
    return [(one, other) for one, other in pairs_of(table) if rows_at_odds(table[one], table[other])]


def laid_rows(one, other):
    """Return the row of the greater heaps of two rows and that of the lesser ones."""
    greater = tuple(max(mine, yours) for mine, yours in zip(one, other))
    lesser = tuple(min(mine, yours) for mine, yours in zip(one, other))
    return greater, lesser


def with_rows(table, one, other, rows):
    """Return the table in which two people have other rows, told as a pair."""
    changed = list(table)
    changed[one], changed[other] = rows
    return tuple(changed)


def laid(table, one, other):
    """Return the table behind a lay of two people."""
    return with_rows(table, one, other, laid_rows(table[one], table[other]))


def crowd_of(table):
    """Return the rows of a table, the greatest ones first."""
    return tuple(sorted(table, reverse=True))


def tower_of(table):
    """Return the crowd at which all deeds on a table end."""
    columns = [sorted(column, reverse=True) for column in zip(*table)]
    return tuple(zip(*columns))


def made_by_pairs(table):
    """Return the list of the crowds that a deed makes, one for each pair at odds."""
    return [crowd_of(laid(table, one, other)) for one, other in odds_pairs(table)]


def nexts_of(table):
    """Return the ascending list of the different crowds that one deed makes."""
    return sorted(set(made_by_pairs(table)))


def lots_of(many):
    """Return the list of all ascending tuples of the numbers 0, 1, .., so many; the smallest ones first."""
    return [lot for size in range(many + 1) for lot in combinations(range(many), size)]


def choices(lots):
    """Return the list of all tuples of one thing of each lot, by the things' places in their lots."""
    found = [()]
    for lot in lots:
        found = [chosen + (thing,) for chosen in found for thing in lot]
    return found


def tally(numbers):
    """Return the tuple of how many of the numbers are 0, 1, .., up to the greatest one."""
    counts = [0] * (max(numbers) + 1)
    for number in numbers:
        counts[number] += 1
    return tuple(counts)


def ratio(numerator, denominator):
    """Return a ratio in lowest terms; the denominator is positive."""
    common = gcd(numerator, denominator)
    return numerator // common, denominator // common


def walk(start, ahead, most):
    """Tell all that steps make of start, nearest first; ahead returns the list of what one step makes of a thing.

    The answer is a pair of dicts: from each thing to the least number of steps, and to what one step makes of it.
    """
    steps = {start: 0}
    links = {}
    front = [start]
    while front:
        later = []
        for thing in front:
            links[thing] = ahead(thing)
            for made in links[thing]:
                if made not in steps:
                    steps[made] = steps[thing] + 1
                    later.append(made)
            # Checked here, not behind the front: the next front may be far greater than what is allowed.
            if len(steps) > most:
                raise TooMany(most)
        front = later
    return steps, links
