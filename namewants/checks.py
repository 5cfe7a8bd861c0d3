"""Whole numbers and sides, and the refusals of what is none.

The words of a refusal never show the thing that was handed in: a very long
number can't be shown, and the refusal would become another error.
"""

from namewants.errors import BadNumber, BadSides

VALUE_MOST = 999
SIDE_MOST = 7


def is_whole(thing):
    """Whether it is a whole number; True and False are none."""
    return isinstance(thing, int) and not isinstance(thing, bool)


def is_within(thing, least, most):
    """Whether it is a whole number from least to most."""
    return is_whole(thing) and least <= thing <= most


def is_sides(thing):
    """Whether it is a list of unlike sides."""
    if not isinstance(thing, list):
        return False
    if not all([is_within(side, 0, SIDE_MOST) for side in thing]):
        return False
    return len(set(thing)) == len(thing)


def need_within(thing, least, most):
    """Refuse what is no whole number from least to most."""
    if not is_within(thing, least, most):
        raise BadNumber(f"no whole number from {least} to {most}")


def need_value(thing):
    """Refuse what is no value."""
    need_within(thing, 0, VALUE_MOST)


def need_tick(thing):
    """Refuse what is no whole number from 0 on."""
    if not is_whole(thing) or thing < 0:
        raise BadNumber("no whole number from 0 on")


def need_sides(thing):
    """Refuse what is no list of unlike sides."""
    if not is_sides(thing):
        raise BadSides("no list of unlike sides")
