"""Fixed lays, which are told without a table; one good of heaps 0 and 1 tells what they do to all tables."""

from laytogether.basics import MOST_PEOPLE, check_lays, check_number, choices, is_lays

# Shortest lays for 1, 2, .. people; that there are no shorter ones is known (D. Knuth, of nets that compare).
FEWEST_LAYS = (
    (),
    ((0, 1),),
    ((0, 1), (1, 2), (0, 1)),
    ((0, 1), (2, 3), (0, 2), (1, 3), (1, 2)),
    ((0, 1), (3, 4), (2, 4), (2, 3), (1, 4), (0, 3), (0, 2), (1, 3), (1, 2)),
)


def brings_all(many, lays):
    """Return whether lays bring all tables of so many people to in_order of the order 0, 1, .."""
    check_fixed(many, lays)
    return not not_brought(many, lays)


def left_over(many, lays):
    """Return the ascending list of the tuples of heaps 0 and 1 that lays do not bring in order."""
    check_fixed(many, lays)
    return not_brought(many, lays)


def count_left(many, lays):
    """Return the number of the tuples of heaps 0 and 1 that lays do not bring in order."""
    check_fixed(many, lays)
    return len(not_brought(many, lays))


def count_states(many, lays):
    """Return how many different tuples lays make of all tuples of heaps 0 and 1."""
    check_fixed(many, lays)
    return len({brought(heaps, lays) for heaps in all_heaps(many)})


def idle(many, lays):
    """Return the ascending tuple of the indexes of those lays that, where they stand, change no table."""
    check_fixed(many, lays)
    indexes = []
    states = all_heaps(many)
    for index, pair in enumerate(lays):
        behind = [brought(heaps, (pair,)) for heaps in states]
        if behind == states:
            indexes.append(index)
        states = behind
    return tuple(indexes)


def plain_lays(many):
    """Return the lays of all neighbors, then of all but the last two, and so on."""
    check_number(many, 1, MOST_PEOPLE)
    return tuple((one, one + 1) for last in range(many - 1, 0, -1) for one in range(last))


def fewest_lays(many):
    """Return a shortest tuple of lays that brings all."""
    check_number(many, 1, len(FEWEST_LAYS))
    return FEWEST_LAYS[many - 1]


def shows_fixed(many, value):
    """Return whether a value is a shortest tuple of lays that brings all."""
    check_number(many, 1, len(FEWEST_LAYS))
    if not is_lays(value, many) or len(value) != len(FEWEST_LAYS[many - 1]):
        return False
    return not not_brought(many, value)


def check_fixed(many, lays):
    """Raise the first error of a number of people and lays of them."""
    check_number(many, 1, MOST_PEOPLE)
    check_lays(lays, many)


def all_heaps(many):
    """Return the ascending list of the tuples of heaps 0 and 1 for so many people."""
    return choices([(0, 1)] * many)


def brought(heaps, lays):
    """Return what lays make of a tuple of heaps."""
    now = list(heaps)
    for one, other in lays:
        now[one], now[other] = max(now[one], now[other]), min(now[one], now[other])
    return tuple(now)


def not_brought(many, lays):
    """Return the ascending list of the tuples of heaps 0 and 1 that lays do not bring in order."""
    return [heaps for heaps in all_heaps(many) if brought(heaps, lays) != tuple(sorted(heaps, reverse=True))]
