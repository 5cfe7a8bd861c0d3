"""Laid tables: each house sends an ask nearer to the homes of a beginning."""

from namewants.checks import both_ways, is_within, need_houses, need_ways
from namewants.errors import BadName
from namewants.names import is_beginning
from namewants.tables import Table


def laid(houses, ways, homes):
    """A table for each house, with a row for each beginning that has a home."""
    need_houses(houses)
    need_ways(ways, houses)
    need_homes(homes, houses)
    pairs = both_ways(ways)
    tables = [Table() for number in range(houses)]
    for beginning in sorted({beginning for house, beginning in homes}):
        away = distances(pairs, [house for house, other in homes if other == beginning])
        for number in range(houses):
            tables[number].put(beginning, nearer_sides(pairs, away, number))
    return tables


def taught(net, homes):
    """Teach all houses of a net that aren't gone the laid tables, besides what they had."""
    tables = laid(net.size(), net.ways(), homes)
    for house in net.alive():
        for beginning, sides in tables[house].rows():
            net.teach(house, beginning, sides)


def need_homes(thing, houses):
    """Refuse what is no list of tuples (house, beginning) of so many houses."""
    if not isinstance(thing, list) or not all([is_home(home, houses) for home in thing]):
        raise BadName("no list of homes")


def is_home(thing, houses):
    """Whether it is a tuple (house, beginning) of one of so many houses."""
    if not isinstance(thing, tuple) or len(thing) != 2:
        return False
    return is_within(thing[0], 0, houses - 1) and is_beginning(thing[1])


def distances(pairs, homes):
    """How many ways each house is away from the nearest home; without those that hang together with none."""
    away = {home: 0 for home in homes}
    ring = list(away)
    while ring:
        farther = [other for one, other in pairs if one in ring and other not in away]
        steps = away[ring[0]] + 1
        for house in farther:
            away[house] = steps
        ring = farther
    return away


def nearer_sides(pairs, away, house):
    """The sides of a house that are nearer to a home than it, rising."""
    if house not in away:
        return []
    return [other for one, other in pairs if one == house and away[other] < away[house]]
