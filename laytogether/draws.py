"""Drawn deeds: each time one of the pairs at odds of a crowd, all equally likely, does its deed.

A chance is kept as a number of parts, of which the chance 1 has as many as all_parts tells.
"""

from laytogether.basics import MOST_CROWDS, check_like, check_number, check_table, crowd_of, made_by_pairs
from laytogether.basics import odds_pairs, pairs_of, ratio, tower_of, walk

MOST_DEEDS = 60


def come_chance(one, other):
    """Return the chance to come through the crowd of other from that of one, a ratio."""
    check_like(one, other)
    parts = parts_through(one, drawn_links(one))
    return as_chance(parts.get(crowd_of(other), 0))


def after(table, deeds):
    """Return the ascending list of the pairs (crowd, chance) behind so many deeds, or fewer at the tower."""
    check_table(table)
    check_number(deeds, 0, MOST_DEEDS)
    # Each deed makes the pairs at odds fewer: behind as many deeds as there are pairs there is the tower alone.
    if deeds >= len(odds_pairs(table)):
        return [(tower_of(table), (1, 1))]
    parts = {crowd_of(table): all_parts()}
    for _ in range(deeds):
        # A tower, of which no deed makes anything, stays as it is.
        parts = behind_draw(parts, {told: made_by_pairs(told) or [told] for told in parts})
    return sorted([(told, as_chance(part)) for told, part in parts.items()])


def mean_deeds(table):
    """Return the mean number of deeds to the tower, a ratio."""
    check_table(table)
    return as_chance(sum(part for _, part in ahead_of_tower(table)))


def deeds_chances(table):
    """Return the tuple of the chances that it takes 0, 1, .. deeds to the tower, up to the most."""
    check_table(table)
    return tuple(as_chance(part) for part in parts_by_deeds(table))


def mean_draws(table):
    """Return the mean number of draws to the tower if each time any two of all people are drawn, a ratio."""
    check_table(table)
    drawn = len(pairs_of(table))
    # It takes drawn / pairs draws, as the mean, to draw two at odds.
    return as_chance(sum(part // pairs * drawn for pairs, part in ahead_of_tower(table)))


def mean_pairs_met(table):
    """Return the mean of the sum of the numbers of pairs at odds of all crowds come through, a ratio."""
    check_table(table)
    return as_chance(sum(part * pairs for pairs, part in ahead_of_tower(table)))


def likeliest_last(table):
    """Return the pair (chance, crowd) of the crowd that is likeliest to be the last one ahead of the tower.

    Of several it is the least one; for a tower the answer is None.
    """
    check_table(table)
    links = drawn_links(table)
    parts = parts_through(table, links)
    end = tower_of(table)
    lasts = {told: parts[told] // len(made) * made.count(end) for told, made in links.items() if made}
    most = max(lasts.values(), default=None)
    if most is None:
        return None
    return as_chance(most), min([told for told in lasts if lasts[told] == most])


def all_parts():
    """Return of how many parts the chance 1 is."""
    # Each number of pairs at odds, from 1 to 15, divides 360360, and no more than 15 deeds are ever done.
    return 360360 ** 15


def as_chance(part):
    """Return a number of parts as a ratio."""
    return ratio(part, all_parts())


def drawn_links(table):
    """Return the dict from each crowd that deeds make of that of a table to what each of its pairs at odds makes."""
    _, links = walk(crowd_of(table), made_by_pairs, MOST_CROWDS)
    return links


def parts_through(table, links):
    """Return the dict from each crowd that deeds make of that of a table to its part: the chance to come through it."""
    parts = {crowd_of(table): all_parts()}
    # The crowd with more pairs at odds comes first: all parts have come to it before they are handed on.
    for told in sorted(links, key=lambda met: -len(links[met])):
        hand_on(parts, parts[told], links[told])
    return parts


def behind_draw(parts, links):
    """Return the dict of the parts of crowds behind one deed more; links tells what each pair at odds makes."""
    behind = {}
    for told, part in parts.items():
        hand_on(behind, part, links[told])
    return behind


def hand_on(parts, part, made):
    """Divide a part evenly among what pairs at odds make, and add to the parts of these."""
    for later in made:
        parts[later] = parts.get(later, 0) + part // len(made)


def ahead_of_tower(table):
    """Return the list of pairs (number of pairs at odds, part of the chance to come through) of all but the tower."""
    links = drawn_links(table)
    parts = parts_through(table, links)
    return [(len(made), parts[told]) for told, made in links.items() if made]


def parts_by_deeds(table):
    """Return the list of the parts of the chances that it takes 0, 1, .. deeds to the tower."""
    links = drawn_links(table)
    end = tower_of(table)
    parts = {crowd_of(table): all_parts()}
    found = []
    while parts:
        found.append(parts.get(end, 0))
        parts = behind_draw(parts, links)
    return found
