"""Parts of tables: people and goods taken away, added and put in order, and rows beside a table."""

from laytogether.basics import MOST_GOODS, MOST_PEOPLE, check_good, check_order, check_person, check_row, check_table
from laytogether.basics import is_order, lots_of, odds_pairs
from laytogether.errors import Alone, BadGoods, NotLike, TooMany
from laytogether.tables import above, quarrels, under


def without_person(table, person):
    """Return the table without a person."""
    check_table(table)
    check_person(table, person)
    if len(table) == 1:
        raise Alone("there is no other person")
    return less_people(table, (person,))


def without_good(table, good):
    """Return the table without a good."""
    check_other_goods(table, good)
    return less_goods(table, (good,))


def with_person(table, row):
    """Return the table with a person more behind."""
    check_table(table)
    check_row(table, row)
    return few_people(table + (row,))


def beside(one, other):
    """Return the table of the goods of one and, behind them, those of other."""
    check_table(one)
    check_table(other)
    if len(one) != len(other):
        raise NotLike("the tables have not as many people")
    if len(one[0]) + len(other[0]) > MOST_GOODS:
        raise TooMany(MOST_GOODS)
    return tuple(row + more for row, more in zip(one, other))


def below(one, other):
    """Return the table of the people of one and, behind them, those of other."""
    check_table(one)
    check_table(other)
    if len(one[0]) != len(other[0]):
        raise NotLike("the tables have not as many goods")
    return few_people(one + other)


def people_in_order(table, order):
    """Return the table with people taken in an order."""
    check_table(table)
    check_order(table, order)
    return tuple(table[person] for person in order)


def goods_in_order(table, order):
    """Return the table with goods taken in an order."""
    check_table(table)
    if not is_order(order, len(table[0])):
        raise BadGoods("no order of the goods of the table")
    return of_goods(table, order)


def kept_odds(table, good):
    """Return the ascending list of the pairs at odds that are so without a good."""
    check_other_goods(table, good)
    # Who is at odds without a good is so with it, too.
    return odds_pairs(less_goods(table, (good,)))


def needless_goods(table):
    """Return the ascending list of the goods without each of which alone the same pairs are at odds."""
    check_other_goods(table, 0)
    pairs = odds_pairs(table)
    return [good for good in range(len(table[0])) if odds_pairs(less_goods(table, (good,))) == pairs]


def fewest_goods(table):
    """Return the least of the smallest ascending tuples of goods by which alone the same pairs are at odds."""
    check_table(table)
    pairs = odds_pairs(table)
    return [lot for lot in lots_of(len(table[0])) if odds_pairs(of_goods(table, lot)) == pairs][0]


def fewest_to_go(table):
    """Return the least of the smallest ascending tuples of people without whom the others are a tower."""
    check_table(table)
    return [lot for lot in lots_of(len(table)) if not odds_pairs(less_people(table, lot))][0]


def middle_rows(table):
    """Return the pair of the rows of the greatest and of the least heap of each good."""
    check_table(table)
    columns = list(zip(*table))
    return tuple(max(column) for column in columns), tuple(min(column) for column in columns)


def gaps(table, row):
    """Return the pair of how many people a row is over and how many are over it."""
    check_table(table)
    check_row(table, row)
    return len(under(table, row)), len(above(table, row))


def quarrels_with(table, row):
    """Return the ascending list of the people with whom a row is at odds."""
    check_table(table)
    check_row(table, row)
    return quarrels(table, row)


def check_other_goods(table, good):
    """Raise the first error of a table and a good of it that is to have another one beside it."""
    check_table(table)
    check_good(table, good)
    if len(table[0]) == 1:
        raise Alone("there is no other good")


def few_people(rows):
    """Return rows that are to be a table, as long as they are not too many."""
    if len(rows) > MOST_PEOPLE:
        raise TooMany(MOST_PEOPLE)
    return rows


def less_people(table, lot):
    """Return the rows of all people but those of a lot."""
    return tuple(row for person, row in enumerate(table) if person not in lot)


def of_goods(table, told):
    """Return the rows of goods as they are told."""
    return tuple(tuple(row[good] for good in told) for row in table)


def less_goods(table, lot):
    """Return the rows of all goods but those of a lot."""
    return of_goods(table, [good for good in range(len(table[0])) if good not in lot])
