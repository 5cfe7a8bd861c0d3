"""Stories: lists of deeds, their texts, and what a net makes of them."""

from namewants.checks import is_life, is_side, is_sides, is_value
from namewants.errors import BadName, BadStory, WantError
from namewants.names import is_beginning, is_name, name_text, read_name

FIGURES = "0123456789"
# No number of a deed has more figures.
FIGURES_MOST = 3

PARTS = {
    "ask": ("house", "name"),
    "own": ("house", "name", "value", "life"),
    "disown": ("house", "name"),
    "teach": ("house", "beginning", "sides"),
    "forget": ("house", "beginning"),
    "come": ("house", "house"),
    "lose": ("house", "house"),
    "cut": ("house", "house"),
    "mend": ("house", "house"),
    "leave": ("house",),
    "settle": (),
    "tick": (),
}


def is_side_tuple(thing):
    """Whether it is a tuple of unlike sides."""
    return isinstance(thing, tuple) and is_sides(list(thing))


def is_of_kind(kind, thing):
    """Whether it can stand in a deed as a part of this kind."""
    if kind == "house":
        return is_side(thing)
    if kind == "name":
        return is_name(thing)
    if kind == "value":
        return is_value(thing)
    if kind == "life":
        return is_life(thing)
    if kind == "beginning":
        return is_beginning(thing)
    return is_side_tuple(thing)


def is_deed(thing):
    """Whether it is a deed."""
    if not isinstance(thing, tuple) or len(thing) == 0:
        return False
    if not isinstance(thing[0], str) or thing[0] not in PARTS:
        return False
    kinds = PARTS[thing[0]]
    if len(thing) != len(kinds) + 1:
        return False
    return all([is_of_kind(kind, part) for kind, part in zip(kinds, thing[1:])])


def need_story(thing):
    """Refuse what is no list of deeds."""
    if not isinstance(thing, list) or not all([is_deed(deed) for deed in thing]):
        raise BadStory("no list of deeds")


def part_text(kind, part):
    """The text of a part of a deed."""
    if kind in ("name", "beginning"):
        return name_text(part)
    if kind == "sides":
        return ",".join([str(side) for side in part]) if part else "-"
    return str(part)


def deed_text(deed):
    """The row of a deed."""
    texts = [part_text(kind, part) for kind, part in zip(PARTS[deed[0]], deed[1:])]
    return " ".join([deed[0]] + texts)


def story_text(story):
    """The text of a story: a row for each deed."""
    need_story(story)
    return "\n".join([deed_text(deed) for deed in story])


def read_beginning(text):
    """The beginning of which this is the text."""
    try:
        return read_name(text)
    except BadName:
        raise BadStory("no text of a beginning") from None


def read_number(text):
    """The number of which this is the text."""
    if not 1 <= len(text) <= FIGURES_MOST or not all([sign in FIGURES for sign in text]):
        raise BadStory("no text of a number")
    number = int(text)
    # Each number has but one text: none with noughts ahead.
    if str(number) != text:
        raise BadStory("no text of a number")
    return number


def read_part(kind, text):
    """The part of a deed of which this is the text."""
    if kind in ("name", "beginning"):
        return read_beginning(text)
    if kind == "sides":
        return () if text == "-" else tuple([read_number(part) for part in text.split(",")])
    return read_number(text)


def read_deed(row):
    """The deed of which this is the row, its parts perhaps beyond their bounds."""
    word, *texts = row.split(" ")
    if word not in PARTS or len(texts) != len(PARTS[word]):
        raise BadStory("no row of a deed")
    return tuple([word] + [read_part(kind, text) for kind, text in zip(PARTS[word], texts)])


def read_story(text):
    """The story of which this is the text."""
    if not isinstance(text, str):
        raise BadStory("no text")
    if text == "":
        return []
    story = [read_deed(row) for row in text.split("\n")]
    need_story(story)
    return story


def do_deed(net, deed):
    """Let a net do a deed, or refuse it."""
    word = deed[0]
    if word == "ask":
        net.ask(deed[1], deed[2])
    elif word == "own":
        net.own(deed[1], deed[2], deed[3], deed[4])
    elif word == "disown":
        net.disown(deed[1], deed[2])
    elif word == "teach":
        net.teach(deed[1], deed[2], list(deed[3]))
    elif word == "forget":
        net.forget(deed[1], deed[2])
    elif word == "come":
        net.come(deed[1], deed[2])
    elif word == "lose":
        net.lose(deed[1], deed[2])
    elif word == "cut":
        net.cut(deed[1], deed[2])
    elif word == "mend":
        net.mend(deed[1], deed[2])
    elif word == "leave":
        net.leave(deed[1])
    elif word == "settle":
        net.settle()
    else:
        net.tick()


def played(net, story):
    """Let a net do all deeds of a story: how many it refused."""
    need_story(story)
    refused = 0
    for deed in story:
        try:
            do_deed(net, deed)
        except WantError:
            refused += 1
    return refused
