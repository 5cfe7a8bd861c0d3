"""Names and beginnings: tuples of parts, and their texts."""

from namewants.errors import BadName

SIGNS = "abcdefghijklmnopqrstuvwxyz0123456789"
PART_LONGEST = 4
NAME_LONGEST = 5
PART_COUNT = 36 + 36 ** 2 + 36 ** 3 + 36 ** 4


def is_part(thing):
    """Whether it is a text of 1 to 4 small letters and figures."""
    if not isinstance(thing, str) or not 1 <= len(thing) <= PART_LONGEST:
        return False
    return all([sign in SIGNS for sign in thing])


def is_name(thing):
    """Whether it is a tuple of 1 to 5 parts."""
    if not isinstance(thing, tuple) or not 1 <= len(thing) <= NAME_LONGEST:
        return False
    return all([is_part(part) for part in thing])


def is_beginning(thing):
    """Whether it is a name, or ()."""
    return is_name(thing) or (isinstance(thing, tuple) and len(thing) == 0)


def need_name(thing):
    """Refuse what is no name."""
    if not is_name(thing):
        raise BadName("no name")


def need_beginning(thing):
    """Refuse what is no beginning."""
    if not is_beginning(thing):
        raise BadName("no beginning")


def begins(name, beginning):
    """Whether the first parts of the name are the beginning."""
    need_name(name)
    need_beginning(beginning)
    return name[:len(beginning)] == beginning


def name_text(beginning):
    """The text of a beginning: /a/b, and / of ()."""
    need_beginning(beginning)
    return "/" + "/".join(beginning)


def read_name(text):
    """The beginning of which this is the text."""
    if not isinstance(text, str) or text[:1] != "/":
        raise BadName("no text of a beginning")
    if text == "/":
        return ()
    name = tuple(text[1:].split("/"))
    if not is_name(name):
        raise BadName("no text of a beginning")
    return name


def part_at(number):
    """The part that stands at this place, from 0 on, if all parts stand in a row, shorter ones first."""
    part = ""
    left = number + 1
    while left > 0:
        # No sign stands for nothing here, so each place counts from 1 on.
        left -= 1
        part = SIGNS[left % len(SIGNS)] + part
        left //= len(SIGNS)
    return part
