"""Whole numbers, sides and ways, and the refusals of what is none.

The words of a refusal never show the thing that was handed in: a very long
number can't be shown, and the refusal would become another error.
"""

from namewants.errors import BadNumber, BadSides

VALUE_MOST = 999
SIDE_MOST = 7
LIFE_MOST = 99
HOUSES_LEAST = 2
HOUSES_MOST = SIDE_MOST + 1


def is_whole(thing):
    """Whether it is a whole number; True and False are none."""
    return isinstance(thing, int) and not isinstance(thing, bool)


def is_within(thing, least, most):
    """Whether it is a whole number from least to most."""
    return is_whole(thing) and least <= thing <= most


def is_value(thing):
    """Whether it is a value."""
    return is_within(thing, 0, VALUE_MOST)


def is_side(thing):
    """Whether it is a side or house."""
    return is_within(thing, 0, SIDE_MOST)


def is_life(thing):
    """Whether it is the life of a thing."""
    return is_within(thing, 0, LIFE_MOST)


def is_tick(thing):
    """Whether it is a whole number from 0 on."""
    return is_whole(thing) and thing >= 0


def is_sides(thing):
    """Whether it is a list of unlike sides."""
    if not isinstance(thing, list):
        return False
    if not all([is_side(side) for side in thing]):
        return False
    return len(set(thing)) == len(thing)


def is_way(thing, houses):
    """Whether it is a tuple (lesser, greater) of two of so many houses."""
    if not isinstance(thing, tuple) or len(thing) != 2:
        return False
    lesser, greater = thing
    return is_within(lesser, 0, houses - 1) and is_within(greater, lesser + 1, houses - 1)


def need_within(thing, least, most):
    """Refuse what is no whole number from least to most."""
    if not is_within(thing, least, most):
        raise BadNumber(f"no whole number from {least} to {most}")


def need_value(thing):
    """Refuse what is no value."""
    need_within(thing, 0, VALUE_MOST)


def need_life(thing):
    """Refuse what is no life of a thing."""
    need_within(thing, 0, LIFE_MOST)


def need_tick(thing):
    """Refuse what is no whole number from 0 on."""
    if not is_tick(thing):
        raise BadNumber("no whole number from 0 on")


def need_sides(thing):
    """Refuse what is no list of unlike sides."""
    if not is_sides(thing):
        raise BadSides("no list of unlike sides")


def need_houses(thing):
    """Refuse what is no number of houses of a net."""
    need_within(thing, HOUSES_LEAST, HOUSES_MOST)


def need_ways(thing, houses):
    """Refuse what is no list of unlike ways between so many houses."""
    if not isinstance(thing, list) or not all([is_way(way, houses) for way in thing]):
        raise BadSides("no list of ways")
    if len(set(thing)) != len(thing):
        raise BadSides("a way that is there twice")


def both_ways(ways):
    """The pairs (one, other) of all ways, there and back, rising."""
    return sorted(ways + [(greater, lesser) for lesser, greater in ways])
