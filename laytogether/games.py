"""Two do deeds on a crowd by turns; who can do none loses."""

from laytogether.basics import check_number, check_table, crowd_of, is_table, is_tuple, nexts_of, odds_pairs
from laytogether.crowds import most_odds_first, walk_down
from laytogether.draws import as_chance, parts_by_deeds

MOST_DEEDS_LEFT = 15


def worth(table):
    """Return the least number from 0 on that is not the worth of what one deed makes."""
    check_table(table)
    return own_worth(table)


def first_wins(table):
    """Return whether who does the first deed wins if both do as well as can be."""
    check_table(table)
    return own_worth(table) != 0


def winning_next(table):
    """Return the ascending list of the crowds that who does the first deed may make then and win."""
    check_table(table)
    _, links = walk_down(table)
    worths = worths_of(links)
    return [made for made in links[crowd_of(table)] if worths[made] == 0]


def both_games(one, other):
    """Return whether who does the first deed wins if each deed is done on one of two crowds."""
    check_table(one)
    check_table(other)
    # Two crowds of one worth are lost for the first one: to each deed there is an answer that evens the worths.
    return own_worth(one) != own_worth(other)


def game_length(table):
    """Return how many deeds are done if who wins wants few and the other one many."""
    check_table(table)
    lengths, _ = game_of(table)
    return lengths[crowd_of(table)]


def best_play(table):
    """Return a tuple of the crowds of a play in which who wins wants few deeds and the other one many."""
    check_table(table)
    _, best = game_of(table)
    play = [crowd_of(table)]
    while best[play[-1]]:
        play.append(best[play[-1]][0])
    return tuple(play)


def shows_play(table, value):
    """Return whether a value is a play in which who wins wants few deeds and the other one many."""
    check_table(table)
    lengths, best = game_of(table)
    start = crowd_of(table)
    many = lengths[start] + 1
    if not is_tuple(value, many, many) or not all(is_table(thing) for thing in value):
        return False
    return value[0] == start and all(later in best[before] for before, later in zip(value, value[1:]))


def first_chance(table):
    """Return the chance that the first one wins if both draw their deeds, a ratio."""
    check_table(table)
    # Who has done the last deed wins: the first one does if their number is odd.
    return as_chance(sum(parts_by_deeds(table)[1::2]))


def deeds_left(table, most):
    """Return whether the first one can see to it that at most so many deeds are done, the other doing against it."""
    check_table(table)
    check_number(most, 0, MOST_DEEDS_LEFT)
    return can_end(crowd_of(table), most, True, {})


def own_worth(table):
    """Return the worth of a table, without checks."""
    _, links = walk_down(table)
    return worths_of(links)[crowd_of(table)]


def worths_of(links):
    """Return the dict of the worths of crowds, each told behind all that deeds make of it."""
    worths = {}
    for told in reversed(most_odds_first(links)):
        taken = {worths[made]: True for made in links[told]}
        # One of the numbers up to how many are taken is free.
        worths[told] = min([number for number in range(len(taken) + 1) if number not in taken])
    return worths


def game_of(table):
    """Tell how a game goes on: the dict of how many deeds are still done, and that of the crowds made best next."""
    _, links = walk_down(table)
    worths = worths_of(links)
    lengths = {}
    best = {}
    for told in worths:
        if worths[told] == 0:
            length = max([lengths[made] + 1 for made in links[told]], default=0)
            sound = links[told]
        else:
            sound = [made for made in links[told] if worths[made] == 0]
            length = min([lengths[made] + 1 for made in sound])
        lengths[told] = length
        best[told] = [made for made in sound if lengths[made] == length - 1]
    return lengths, best


def can_end(told, most, own_turn, known):
    """Tell whether the first one can see to it that at most so many deeds are done on a crowd.

    What was found before is kept in known; whose turn it is there is told by how many deeds are allowed.
    """
    # Each deed makes the pairs at odds fewer.
    if len(odds_pairs(told)) <= most:
        return True
    if most == 0:
        return False
    if (told, most) not in known:
        nexts = nexts_of(told)
        if own_turn:
            can = any(can_end(made, most - 1, False, known) for made in nexts)
        else:
            can = all(can_end(made, most - 1, True, known) for made in nexts)
        known[told, most] = can
    return known[told, most]
