"""Second, plainly written answers: slow, and told another way than in the package."""

from fractions import Fraction
from functools import cache
from itertools import combinations, permutations, product


def all_tables(people, goods, most):
    """All tables of so many people and goods with heaps 0 to most."""
    rows = list(product(range(most + 1), repeat=goods))
    return list(product(rows, repeat=people))


def small_tables():
    """Small tables of several shapes, walked through whole."""
    shapes = [(1, 1, 3), (1, 2, 1), (2, 1, 2), (2, 2, 2), (3, 1, 2), (3, 2, 1), (2, 3, 1)]
    return [table for shape in shapes for table in all_tables(*shape)]


def three_by_two():
    """All tables of 3 people and 2 goods, of each good the heaps 0, 1, 2 in some order."""
    return tables_of(((0, 1, 2), (0, 1, 2)))


def more_tables():
    """Some tables with more people and goods than the small ones."""
    return [
        ((3, 1), (1, 2), (0, 4)),
        ((0, 4), (1, 3), (2, 2), (3, 1)),
        ((0, 3, 1), (1, 2, 1), (2, 0, 5), (0, 3, 1)),
        ((2, 0, 1, 0), (0, 2, 0, 1), (1, 1, 1, 1)),
        ((9, 0, 5, 1, 3), (2, 8, 4, 4, 3)),
        ((0, 99), (99, 0), (50, 50), (50, 50)),
    ]


def over(one, other):
    return not any(mine < yours for mine, yours in zip(one, other))


def odds(one, other):
    return not over(one, other) and not over(other, one)


def odds_of(table):
    found = []
    for one in range(len(table)):
        for other in range(one + 1, len(table)):
            if odds(table[one], table[other]):
                found.append((one, other))
    return found


def crowd(table):
    return tuple(sorted(table)[::-1])


def tower(table):
    columns = [sorted(column)[::-1] for column in zip(*table)]
    return tuple(tuple(column[place] for column in columns) for place in range(len(table)))


def deed(table, one, other):
    """The crowd that the deed of two people makes."""
    rows = [row for person, row in enumerate(table) if person not in (one, other)]
    both = list(zip(table[one], table[other]))
    rows.append(tuple(max(two) for two in both))
    rows.append(tuple(min(two) for two in both))
    return crowd(rows)


def deeds(table):
    """The set of the crowds that one deed makes."""
    return {deed(table, one, other) for one, other in odds_of(table)}


def paths(start):
    """All rows of crowds from a crowd on, each a deed from the one before, whether or not they go on."""
    found = [(start,)]
    for later in deeds(start):
        found.extend((start,) + path for path in paths(later))
    return found


def met(table):
    """The set of all crowds that deeds make, a table's own among them."""
    found = set()
    ahead = {crowd(table)}
    while ahead - found:
        found |= ahead
        ahead = {made for told in ahead for made in deeds(told)}
    return found


def tables_of(heaps):
    """The ascending list of the tables that have told heaps."""
    orders = [set(permutations(told)) for told in heaps]
    return sorted(tuple(zip(*columns)) for columns in product(*orders))


def crowds_of(heaps):
    """The ascending list of the crowds that have told heaps."""
    return sorted({crowd(table) for table in tables_of(heaps)})


def crowds_like(table):
    """All crowds with the same heaps of each good as a table."""
    return crowds_of(tuple(zip(*table)))


def befores(table):
    """The set of the crowds of which one deed makes that of a table, sought among all with its heaps."""
    return {told for told in crowds_like(table) if crowd(table) in deeds(told)}


def all_befores(table):
    """The dict from each crowd of which deeds make that of a table to the least number of them."""
    found = {}
    for told in crowds_like(table):
        lengths = [len(path) - 1 for path in paths(told) if path[-1] == crowd(table)]
        if lengths:
            found[told] = min(lengths)
    return found


def lay(table, one, other):
    """A lay, heap by heap."""
    rows = [list(row) for row in table]
    for good in range(len(table[0])):
        if rows[one][good] < rows[other][good]:
            rows[one][good], rows[other][good] = rows[other][good], rows[one][good]
    return tuple(tuple(row) for row in rows)


def laid_all(table, lays):
    for one, other in lays:
        table = lay(table, one, other)
    return table


def by_lays(table):
    """The dict from each table that lays make to the least number of them."""
    steps = {table: 0}
    pairs = list(permutations(range(len(table)), 2))
    turn = 0
    while True:
        turn += 1
        made = {lay(told, one, other) for told in steps for one, other in pairs}
        if not made - set(steps):
            return steps
        for told in made:
            steps.setdefault(told, turn)


def subsets(things):
    """All ascending tuples of some of the things, the smallest ones first, then the least ones."""
    return [lot for size in range(len(things) + 1) for lot in combinations(things, size)]


def drawn(heaps):
    """All ways to draw a table with told heaps, equal heaps told apart: each is equally likely."""
    orders = [list(permutations(told)) for told in heaps]
    return [tuple(zip(*columns)) for columns in product(*orders)]


def chance(things, test):
    """The chance that a test holds for one of equally likely things, a pair in lowest terms."""
    return as_pair(Fraction(sum(1 for thing in things if test(thing)), len(things)))


def as_pair(fraction):
    return fraction.numerator, fraction.denominator


def counted(numbers):
    """How many of the numbers are 0, 1, .., up to the greatest one."""
    numbers = list(numbers)
    return tuple(numbers.count(k) for k in range(max(numbers) + 1))


@cache
def draws(table):
    """All ways to draw deeds until there are none: pairs (chance, crowds come through), the way's own crowd first."""
    pairs = odds_of(table)
    if not pairs:
        return [(Fraction(1), (crowd(table),))]
    found = []
    for one, other in pairs:
        for chance_then, later in draws(deed(table, one, other)):
            found.append((chance_then / len(pairs), (crowd(table),) + later))
    return found


@cache
def mean_to_tower(table, steps_at):
    """The mean of the sum of what steps_at tells of the number of pairs at odds of each crowd ahead of the tower."""
    pairs = odds_of(table)
    if not pairs:
        return Fraction(0)
    later = sum(mean_to_tower(deed(table, one, other), steps_at) for one, other in pairs)
    return steps_at(len(pairs)) + later / len(pairs)


def strictly(one, other):
    return one != other and over(one, other)


def chains(table):
    """All tuples of people each of whom is strictly over the next one."""
    found = []
    for many in range(1, len(table) + 1):
        for lot in permutations(range(len(table)), many):
            if all(strictly(table[before], table[later]) for before, later in zip(lot, lot[1:])):
                found.append(lot)
    return found


def sharings(people):
    """All ways to share people among lots, each one in one lot."""
    if not people:
        return [[]]
    first, rest = people[0], people[1:]
    found = []
    for lots in sharings(rest):
        found.append([[first]] + lots)
        found += [lots[:at] + [[first] + lots[at]] + lots[at + 1:] for at in range(len(lots))]
    return found


@cache
def wins(table):
    """Whether who does the first deed wins."""
    return any(not wins(made) for made in deeds(table))


@cache
def wins_both(one, other):
    """The same on two crowds."""
    if any(not wins_both(made, other) for made in deeds(one)):
        return True
    return any(not wins_both(one, made) for made in deeds(other))


@cache
def worth(table):
    taken = {worth(made) for made in deeds(table)}
    number = 0
    while number in taken:
        number += 1
    return number


@cache
def length(table):
    """How many deeds are done if who wins wants few and the other one many."""
    if not odds_of(table):
        return 0
    if wins(table):
        return 1 + min(length(made) for made in deeds(table) if not wins(made))
    return 1 + max(length(made) for made in deeds(table))


def best_plays(table):
    """The set of all plays each deed of which is one of the best."""
    found = set()
    for path in paths(crowd(table)):
        good = not odds_of(path[-1])
        for before, later in zip(path, path[1:]):
            good = good and length(later) == length(before) - 1 and not (wins(before) and wins(later))
        if good:
            found.add(path)
    return found


@cache
def fewest_left(table, own_turn=True):
    """How many deeds are done if the first one wants few and the other one many, whoever wins."""
    counts = [1 + fewest_left(made, not own_turn) for made in deeds(table)]
    if not counts:
        return 0
    return min(counts) if own_turn else max(counts)
