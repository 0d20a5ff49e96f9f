"""Wrong values for each kind of argument, with the error of each, and tables from which too much is made."""

from laytogether.errors import (
    BadGood, BadGoods, BadHeaps, BadLays, BadLevels, BadNumber, BadOrder, BadPerson, BadRow, BadTable, BadText,
)

TOLD = ((3, 1), (1, 2), (0, 4))

# Deeds make more than 3000 crowds of it, and lays more than 3000 tables.
WIDE = ((5, 0, 2, 3, 1), (4, 1, 5, 0, 2), (3, 2, 1, 4, 5), (2, 3, 0, 5, 4), (1, 4, 3, 2, 0), (0, 5, 4, 1, 3))
# There are more than 3000 crowds of which deeds make it.
DEEP = tuple((heap,) * 5 for heap in (5, 4, 3, 2, 1, 0))

# Deeds make 3000 crowds of this one, and 3001 of the other one.
EXACT = ((5, 5, 7, 9, 4), (3, 9, 5, 5, 7), (3, 0, 7, 9, 4), (1, 5, 7, 6, 8), (1, 1, 4, 4, 4), (0, 7, 8, 2, 2))
ONE_MORE = ((5, 2, 1), (4, 4, 0), (4, 1, 4), (3, 3, 5), (1, 4, 1), (0, 5, 0))

# Values of all kinds that are of no use for any argument here.
ODD = [
    None, True, False, "", "0", "3 1", [], [0], [(0, 1)], [[3, 1], [1, 2]], {}, {0: 1}, {"a": (0, 1)},
    -1, 100, 10 ** 40, -10 ** 40, ((),), (None,), ("x",), ([],), ({},), (True, False), (((1,),),), ("ab", "cd"),
]

ROW_LIKE = [value for value in ODD if not isinstance(value, tuple)]


def uneven(most_things, most_heaps):
    """Pairs (index, value) of what is no tuple of up to so many tuples of up to so many heaps."""
    even = (1,) * most_heaps
    pairs = [(None, value) for value in ODD if not isinstance(value, tuple)]
    pairs += [(None, 5), (None, ()), (None, ((1,),) * (most_things + 1)), (None, (None,) * (most_things + 1))]
    pairs += [(0, (thing,)) for thing in [*ROW_LIKE, 5, (), even + (1,)]]
    pairs += [(0, ((wrong,),)) for wrong in [*ROW_LIKE, (), (1,)]]
    pairs += [(1, ((1, 2), thing)) for thing in [*ROW_LIKE, 5, (), (1,), (1, 2, 3), (1, 100), (1, -1), (True, 1)]]
    pairs += [(1, ((0, 99), (1, False), None)), (2, ((1,), (2,), (1, 2))), (0, ((1, 100), (1,))), (0, (None, None))]
    pairs += [(most_things - 1, (even,) * (most_things - 1) + (even[1:],))]
    pairs += [(most_things - 1, (even,) * (most_things - 1) + (even[1:] + (100,),))]
    return pairs


def wrong_integers(least, most):
    """What is no integer from least to most."""
    return [least - 1, most + 1, None, True, False, "", str(least), [], [least], (), (least,), {}, {least: 1}, 10 ** 40]


def wrong_lays(many):
    """Pairs (index, value) of what is no tuple of lays of so many people, more than one."""
    bad = [
        None, True, 0, "01", [0, 1], {0: 1, 1: 0}, (), (0,), (0, 1, 1), (0, 0), (0, many), (-1, 0), (many, 0),
        (True, 0), (0, True), (False, 1), (1, False), (None, 0), (0, "1"), ((0,), 1), ([], 0), (0, {}),
    ]
    pairs = [(None, value) for value in ODD if not isinstance(value, tuple)]
    pairs += [(None, 0), (None, ((0, 1),) * 61), (None, (None,) * 61)]
    pairs += [(0, (thing,)) for thing in bad] + [(1, ((0, 1), thing, None)) for thing in bad]
    pairs += [(0, (0, 1)), (59, ((1, 0),) * 59 + ((1, 1),))]
    return pairs


WRONG_ROWS = [
    *ROW_LIKE, 0, (), (1,), (1, 2, 3), (1, 2, 3, 4, 5, 6), (1, True), (False, 2), (1, -1), (100, 2), (1, None),
    ("1", "2"), ((1,), 2), ([], 2), ({}, 2), ((3, 1), (1, 2)),
]

WRONG_ORDERS = [
    *ROW_LIKE, 0, (), (0,), (0, 1), (0, 1, 1), (0, 1, 3), (-1, 0, 1), (0, 1, 2, 3), [0, 1, 2], "012", (0, True, 2),
    (False, 1, 2), (0, 1, None), (0, 1, "2"), ((0,), 1, 2), ([], 1, 2), ({}, 1, 2), (1, 2, 3),
]

# Of two goods.
WRONG_GOODS = [
    *ROW_LIKE, 0, (), (0,), (0, 0), (1, 2), (0, 2), (-1, 0), (0, 1, 2), [0, 1], "01", (0, True), (False, 1), (1, None),
    ("1", 0), ((0,), 1), ([], 1), (0, {}),
]

# Of numbers that need not be as many as people of a table.
WRONG_TOLD_ORDERS = [
    *ROW_LIKE, 0, (), (1,), (-1,), (0, 0), (0, 2), (1, 2), (0, 1, 3), (0, 1, 1), (0, 1, 2, 3, 4, 5, 6), [0, 1], "01",
    {0: 0, 1: 1}, (False,), (0, True), (True, 0), (None,), ("0",), ((0,),), ([], 1), (0, {}), (0, 1, 2, 3, 4, 6),
]

# Of 1 to 5 heaps, as many as there may be.
WRONG_FREE_ROWS = [
    *ROW_LIKE, 0, (), (1, 2, 3, 4, 5, 6), (True,), (1, False), (1, -1), (100, 2), (1, 2, 3, 4, 100), (None,), (1, "2"),
    ((1,),), ([], 2), ({}, 2), ((3, 1), (1, 2)), [1, 0], 10 ** 40,
]

NO_TEXTS = [value for value in ODD if not isinstance(value, str)] + [0, 5, (), ("3 1",), ["3 1"], {"3 1": "3 1"}, TOLD]


def wrongs(values, error):
    """Rows (value, error, fields) of values with one error without fields."""
    return [(value, error, {}) for value in values]


def wrongs_at(pairs, error):
    """Rows (value, error, fields) of pairs (index, value)."""
    return [(value, error, {"index": index}) for index, value in pairs]


# For each kind of argument: a value that may be passed, and rows (value, error, fields) of what may not.
KINDS = {
    "table": (TOLD, wrongs_at(uneven(6, 5), BadTable)),
    "heaps": (((0, 1, 2), (0, 1, 1)), wrongs_at(uneven(5, 6), BadHeaps)),
    "person": (2, wrongs(wrong_integers(0, 2), BadPerson)),
    "other person": (0, wrongs(wrong_integers(0, 2), BadPerson)),
    "good": (1, wrongs(wrong_integers(0, 1), BadGood)),
    "other good": (0, wrongs(wrong_integers(0, 1), BadGood)),
    "row": ((3, 4), wrongs(WRONG_ROWS, BadRow)),
    "lower row": ((0, 1), wrongs(WRONG_ROWS, BadRow)),
    "lays": (((0, 1), (2, 1)), wrongs_at(wrong_lays(3), BadLays)),
    "order": ((2, 0, 1), wrongs(WRONG_ORDERS, BadOrder)),
    "goods order": ((1, 0), wrongs(WRONG_GOODS, BadGoods)),
    "told order": ((2, 0, 1), wrongs(WRONG_TOLD_ORDERS, BadOrder)),
    # Levels of two goods have the form of a row.
    "levels": ((1, 2), wrongs(WRONG_ROWS, BadLevels)),
    "turns": (2, wrongs(wrong_integers(0, 60), BadNumber)),
    "most": (2, wrongs(wrong_integers(0, 15), BadNumber)),
    "many": (3, wrongs(wrong_integers(1, 6), BadNumber)),
    "few": (3, wrongs(wrong_integers(1, 5), BadNumber)),
    "people": (2, wrongs(wrong_integers(1, 6), BadNumber)),
    "goods": (2, wrongs(wrong_integers(1, 5), BadNumber)),
    "heap": (2, wrongs(wrong_integers(0, 99), BadNumber)),
    "free row": ((3, 0), wrongs(WRONG_FREE_ROWS, BadRow)),
    # No less than the greatest heap of that row.
    "greatest heap": (4, wrongs(wrong_integers(3, 99), BadNumber)),
    # Of a tower, for what is told of towers alone.
    "tower": (((3, 4), (1, 2), (0, 1)), wrongs_at(uneven(6, 5), BadTable)),
    "text of table": ("3 1\n0 4", wrongs(NO_TEXTS, BadText)),
    "text of lays": ("0>1 2>1", wrongs(NO_TEXTS, BadText)),
    # What may be any value: the second one is answered by True or False.
    "any": (None, []),
    "value": (None, []),
    "any order": ((2, 0, 1), []),
    "any lot": ((2, 0), []),
}
