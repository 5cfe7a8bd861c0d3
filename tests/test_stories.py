import random
import unittest

from namewants.errors import BadStory, WantError
from namewants.nets import Net
from namewants.stories import played, read_story, story_text
from states import copied, frozen
from wrongs import NO_BEGINNINGS, NO_LIVES, NO_NAMES, NO_NUMBERS, NO_VALUES, VERY_LONG

A, B, C, D = ("a",), ("b",), ("a", "c"), ("d", "1", "2", "3", "zz99")

STORY = [
    ("ask", 0, A), ("own", 7, C, 999, 99), ("own", 1, A, 0, 0), ("disown", 2, D), ("teach", 3, (), ()),
    ("teach", 4, A, (5,)), ("teach", 5, D, (7, 0, 3)), ("forget", 6, ()), ("forget", 0, C), ("come", 0, 7),
    ("lose", 7, 7), ("cut", 1, 2), ("mend", 2, 1), ("leave", 7), ("settle",), ("tick",), ("tick",),
]
TEXT = """ask 0 /a
own 7 /a/c 999 99
own 1 /a 0 0
disown 2 /d/1/2/3/zz99
teach 3 / -
teach 4 /a 5
teach 5 /d/1/2/3/zz99 7,0,3
forget 6 /
forget 0 /a/c
come 0 7
lose 7 7
cut 1 2
mend 2 1
leave 7
settle
tick
tick"""

NO_HOUSE_NUMBERS = NO_NUMBERS + (-1, 8, VERY_LONG)

NO_SIDE_TUPLES = NO_NUMBERS[:7] + ([], [1], {}, {1: 1}, object(), (8,), (-1,), (VERY_LONG,), (1, 1), (0, 1, 0), (True,),
                                   (0, True), (None,), ("1",), ((1,),), ([1],), "-", "1,2", 1)

NO_DEEDS = NO_NUMBERS + (
    "tick", ["tick"], ("ticks",), ("",), ("Tick",), (b"tick",), (None,), (1,), (True,), (("tick",),), (["tick"],),
    ("tick", 0), ("tick", None), ("settle", 1), ("settle", ()), ("leave",), ("leave", 1, 2), ("ask", 0), ("ask", A),
    ("ask", A, 0), ("ask", 0, A, 1), ("own", 0, A, 1), ("own", 0, A, 1, 1, 1), ("disown", 0), ("disown", 0, A, 1),
    ("teach", 0, A), ("teach", 0, A, (1,), 1), ("forget", 0), ("forget", 0, A, ()), ("end", 0, 0), ("now",),
) + tuple((word,) + things for word in ("come", "lose", "cut", "mend") for things in ((), (0,), (0, 1, 2))
) + tuple(deed for house in NO_HOUSE_NUMBERS for deed in (
    ("ask", house, A), ("own", house, A, 1, 1), ("disown", house, A), ("teach", house, A, (1,)), ("forget", house, A),
    ("come", house, 1), ("come", 1, house), ("lose", house, 1), ("lose", 1, house), ("cut", house, 1),
    ("cut", 1, house), ("mend", house, 1), ("mend", 1, house), ("leave", house))
) + tuple(deed for name in NO_NAMES for deed in (("ask", 0, name), ("own", 0, name, 1, 1), ("disown", 0, name))
) + tuple(deed for name in NO_BEGINNINGS for deed in (("teach", 0, name, (1,)), ("forget", 0, name))
) + tuple(("own", 0, A, value, 1) for value in NO_VALUES
) + tuple(("own", 0, A, 1, life) for life in NO_LIVES
) + tuple(("teach", 0, A, sides) for sides in NO_SIDE_TUPLES)

NO_STORIES = NO_NUMBERS[:9] + ({}, {("tick",): 1}, object(), "tick", ("tick",), (("tick",),), tuple(STORY), ["tick"])


def random_deed(chance, houses=range(8)):
    house, other = chance.choice(houses), chance.choice(houses)
    name = tuple(chance.choice(("a", "b", "zz9", "0")) for part in range(chance.randrange(1, 6)))
    beginning = name[:chance.randrange(len(name) + 1)]
    return chance.choice((
        ("ask", house, name), ("own", house, name, chance.randrange(1000), chance.randrange(100)),
        ("disown", house, name), ("teach", house, beginning, tuple(chance.sample(range(8), chance.randrange(9)))),
        ("forget", house, beginning), ("come", house, other), ("lose", house, other), ("cut", house, other),
        ("mend", house, other), ("leave", house), ("settle",), ("tick",)))


class TextTest(unittest.TestCase):
    def test_each_kind_of_deeds(self):
        self.assertEqual({deed[0] for deed in STORY}, {"ask", "own", "disown", "teach", "forget", "come", "lose",
                                                       "cut", "mend", "leave", "settle", "tick"})
        for deed, row in zip(STORY, TEXT.split("\n"), strict=True):
            with self.subTest(row=row):
                self.assertEqual(story_text([deed]), row)
                self.assertEqual(read_story(row), [deed])

    def test_whole_story(self):
        self.assertEqual(story_text(STORY), TEXT)
        self.assertEqual(read_story(TEXT), STORY)

    def test_no_deeds(self):
        self.assertEqual(story_text([]), "")
        self.assertEqual(read_story(""), [])

    def test_kinds_that_are_read(self):
        self.assertEqual(frozen(read_story(TEXT)), frozen(STORY))

    def test_each_undoes_the_other(self):
        chance = random.Random(71)
        for number in range(300):
            story = [random_deed(chance) for deed in range(number % 12)]
            text = story_text(story)
            self.assertEqual(read_story(text), story)
            self.assertEqual(story_text(read_story(text)), text)

    def test_all_numbers(self):
        for value in range(1000):
            deed = ("own", value % 8, A, value, value % 100)
            text = f"own {value % 8} /a {value} {value % 100}"
            self.assertEqual(story_text([deed]), text)
            self.assertEqual(read_story(text), [deed])

    def test_lists_are_new(self):
        story = list(STORY)
        story_text(story)
        self.assertEqual(story, STORY)
        read_story(TEXT).clear()
        self.assertEqual(read_story(TEXT), STORY)
        read_story("").append(("tick",))
        self.assertEqual(read_story(""), [])


class NoTextTest(unittest.TestCase):
    def test_texts(self):
        for text in ("\n", " ", "-", "/", "tick\n", "\ntick", "tick\n\ntick", "tick ", " tick", "tick  ", "tick\ttick",
                     "tick tick", "tick\r", "tick\r\ntick", "tick\vtick", "tick\u2028tick", "Tick", "TICK", "tic",
                     "ticks", "settle 1", "settle,", "leave", "leave ", "leave  1", "leave 1 ", "leave -1", "leave +1",
                     "leave 01", "leave 1.0", "leave 1_0", "leave 8", "leave 10", "leave x", "leave \u0661",
                     "leave \u00b2", "leave -", "leave /", "leave 1,2", "leave 1 2", "leave True", "leave None",
                     "ask 0", "ask 0 a", "ask 0 /", "ask 0 //", "ask 0 /a/", "ask 0 /A", "ask 0 /a b", "ask /a 0",
                     "ask 0 /a/a/a/a/a/a", "ask 0 /abcde", "ask 0 ('a',)", "own 0 /a 1", "own 0 /a 1000 1",
                     "own 0 /a 1 100", "own 0 /a 001 1", "own 0 /a 00 1", "own 0 /a 1 00", "own 0 /a -0 1",
                     "own 0 / 1 1", "disown 0 /", "disown 0", "teach 0 /a", "teach 0 /a ", "teach 0 /a ,",
                     "teach 0 /a 1,", "teach 0 /a ,1", "teach 0 /a 1,,2", "teach 0 /a 1,1", "teach 0 /a 1, 2",
                     "teach 0 /a --", "teach 0 /a -,1", "teach 0 /a 1,-", "teach 0 /a 8", "teach 0 /a 01",
                     "teach 0 /a 1 2", "teach 0 a 1", "teach 0 1 /a", "teach 0 - -", "forget 0", "forget 0 -",
                     "forget 0 /a /b", "come 0", "come 0 1 2", "come 0,1", "come 0 8", "come 8 0", "cut 0 -",
                     "mend - 0", "lose 0 /", "leave " + "1" * 5000, "own 0 /a " + "0" * 5000 + " 1", "1", "ask",
                     "own", "teach"):
            with self.subTest(text=text[:20]):
                self.assertRaises(BadStory, read_story, text)
                self.assertRaises(BadStory, read_story, "tick\n" + text)

    def test_things_that_are_no_texts(self):
        for thing in NO_NUMBERS + (1, b"", b"tick", ["tick"], ("tick",), [("tick",)], [], STORY):
            if not isinstance(thing, str):
                self.assertRaises(BadStory, read_story, thing)

    def same_or_refused(self, text):
        """Whether it is read; if so it is just the text of what was read."""
        try:
            story = read_story(text)
        except BadStory:
            return False
        self.assertEqual(story_text(story), text)
        return True

    def test_a_sign_more_less_or_another(self):
        read = 0
        for place in range(len(TEXT) + 1):
            read += self.same_or_refused(TEXT[:place] + TEXT[place + 1:])
            for sign in "a9/-, \n\t0+_A\u0663":
                read += self.same_or_refused(TEXT[:place] + sign + TEXT[place:])
                read += self.same_or_refused(TEXT[:place] + sign + TEXT[place + 1:])
        self.assertGreater(read, 50)

    def test_all_short_texts_of_a_deed(self):
        for head, signs in (("leave ", "0179 -"), ("teach 0 /a ", "017,-"), ("own 0 /a 1 ", "0199 ")):
            for first in [""] + list(signs):
                for second in [""] + list(signs):
                    for third in [""] + list(signs):
                        self.same_or_refused(head + first + second + third)


class NoStoryTest(unittest.TestCase):
    def test_story_text(self):
        for thing in NO_STORIES:
            self.assertRaises(BadStory, story_text, thing)
        for number, thing in enumerate(NO_DEEDS):
            with self.subTest(number=number):
                self.assertRaises(BadStory, story_text, [thing])
                self.assertRaises(BadStory, story_text, [("tick",), thing])

    def test_played(self):
        net = Net(3, [(0, 1), (1, 2)])
        before = frozen(net)
        for thing in NO_STORIES:
            self.assertRaises(BadStory, played, net, thing)
        for number, thing in enumerate(NO_DEEDS):
            with self.subTest(number=number):
                self.assertRaises(BadStory, played, net, [("tick",), ("own", 0, A, 1, 1), thing])
                self.assertRaises(BadStory, played, net, [thing, ("tick",)])
        self.assertEqual(frozen(net), before)

    def test_refused_story_is_not_changed(self):
        net = Net(2, [(0, 1)])
        for thing in (("tick", 1), ["tick"], None, ("teach", 0, A, [1])):
            story = [("tick",), thing, ("settle",)]
            before = frozen(story)
            self.assertRaises(BadStory, story_text, story)
            self.assertRaises(BadStory, played, net, story)
            self.assertEqual(frozen(story), before)


class PlayedTest(unittest.TestCase):
    def test_ordinary_story(self):
        net = Net(3, [(0, 1), (1, 2)])
        story = read_story("own 2 /a 5 3\nteach 0 / 1\nteach 1 / 2\nask 0 /a\ncome 0 1\nsettle\ntick")
        self.assertEqual(played(net, story), 0)
        self.assertEqual(net.end(0, 0), (5,))
        self.assertEqual(net.at_house(0)[1], [(A, 5, 3)])
        self.assertEqual((net.now(), len(net)), (1, 0))

    def test_each_kind_is_done(self):
        cases = (
            (("ask", 1, B), lambda net: net.ask(1, B)),
            (("own", 1, B, 7, 8), lambda net: net.own(1, B, 7, 8)),
            (("disown", 2, A), lambda net: net.disown(2, A)),
            (("teach", 1, C, (2, 0)), lambda net: net.teach(1, C, [2, 0])),
            (("teach", 1, C, ()), lambda net: net.teach(1, C, [])),
            (("forget", 1, ()), lambda net: net.forget(1, ())),
            (("come", 0, 1), lambda net: net.come(0, 1)),
            (("lose", 0, 1), lambda net: net.lose(0, 1)),
            (("cut", 1, 0), lambda net: net.cut(1, 0)),
            (("mend", 1, 2), lambda net: net.mend(1, 2)),
            (("leave", 2), lambda net: net.leave(2)),
            (("settle",), lambda net: net.settle()),
            (("tick",), lambda net: net.tick()),
        )
        start = Net(3, [(0, 1), (1, 2)])
        self.assertEqual(played(start, read_story(
            "own 2 /a 5 3\nteach 0 / 1\nteach 1 / 2\ncut 1 2\nask 0 /a\nask 0 /b")), 0)
        for deed, call in cases:
            with self.subTest(deed=deed):
                one, other = copied(start), copied(start)
                self.assertEqual(played(one, [deed]), 0)
                call(other)
                self.assertEqual(frozen(one), frozen(other))
                self.assertNotEqual(frozen(one), frozen(start))

    def test_refused_deeds_do_nothing(self):
        net = Net(3, [(0, 1), (1, 2)])
        net.leave(2)
        before = frozen(net)
        refused = [("ask", 3, A), ("ask", 7, A), ("ask", 2, A), ("own", 2, A, 1, 1), ("disown", 0, A),
                   ("teach", 0, A, (2,)), ("teach", 0, A, (0,)), ("teach", 0, A, (1, 7)), ("forget", 0, A),
                   ("come", 0, 1), ("come", 0, 0), ("come", 0, 2), ("come", 5, 6), ("lose", 1, 0), ("cut", 0, 2),
                   ("mend", 2, 0), ("cut", 1, 1), ("leave", 2), ("leave", 4)]
        for deed in refused:
            self.assertEqual(played(net, [deed]), 1)
            self.assertEqual(frozen(net), before)
        self.assertEqual(played(net, refused), len(refused))
        self.assertEqual(frozen(net), before)

    def test_goes_on_behind_refused_ones(self):
        net = Net(2, [(0, 1)])
        story = [("come", 0, 1), ("teach", 0, (), (1,)), ("leave", 5), ("ask", 0, A), ("come", 0, 1), ("come", 0, 1)]
        self.assertEqual(played(net, story), 3)
        self.assertEqual(net.on_way(1, 0), [("no", A)])

    def test_lost_letters_are_not_refused(self):
        net = Net(2, [(0, 1)])
        self.assertEqual(played(net, [("teach", 0, (), (1,)), ("ask", 0, A), ("cut", 0, 1), ("come", 0, 1)]), 0)
        self.assertEqual(len(net), 0)

    def test_no_deeds(self):
        net = Net(2, [(0, 1)])
        before = frozen(net)
        self.assertEqual(played(net, []), 0)
        self.assertEqual(frozen(net), before)

    def test_story_is_neither_changed_nor_kept(self):
        net, story = Net(2, [(0, 1)]), list(STORY)
        played(net, story)
        self.assertEqual(story, STORY)
        before = frozen(net)
        story.clear()
        self.assertEqual(frozen(net), before)

    def done(self, net, deed):
        call = getattr(net, deed[0])
        things = [list(thing) if deed[0] == "teach" and place == 2 else thing for place, thing in enumerate(deed[1:])]
        try:
            call(*things)
            return 0
        except WantError:
            return 1

    def test_as_by_hand(self):
        chance = random.Random(72)
        for number in range(60):
            one, other = Net(4, [(0, 1), (1, 2), (2, 3), (0, 3)]), Net(4, [(0, 1), (1, 2), (2, 3), (0, 3)])
            story = [random_deed(chance, range(4 + number % 2)) for deed in range(60)]
            story = [deed for deed in story if deed[0] != "leave" or chance.randrange(5) == 0]
            self.assertEqual(played(one, story), sum(self.done(other, deed) for deed in story))
            self.assertEqual(frozen(one), frozen(other))


if __name__ == "__main__":
    unittest.main()
