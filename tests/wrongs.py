"""Things that are none of what is asked, for all tests."""

VERY_LONG = 10 ** 5000

NO_NUMBERS = (True, False, None, 2.0, "", "1", b"1", (), (1,), [], [1], {}, {1: 1}, object())

NO_PARTS = ("", "abcde", "A", "aB", " ", "a b", "a ", "/", "a/b", "-", "a-b", "_", ".", "a\n", "\u00e9", "\u00b2",
            "\u0663", True, False, None, 0, 1, b"a", ("a",), ["a"], (), [])

NO_BEGINNINGS = (True, False, None, 0, 1, 2.0, "", "a", "/", "/a", b"a", [], ["a"], {}, {"a": 1}, object(),
                 ("a", "b", "c", "d", "e", "f"), ("a",) * 7, (("a", "b"),), ("a", ("b",))
                 ) + tuple((part,) for part in NO_PARTS) + tuple(("a", part, "b") for part in NO_PARTS)

NO_NAMES = NO_BEGINNINGS + ((),)

NO_SIDES = (True, False, None, 0, 1, 2.0, "", "0", "01", b"0", (), (0,), (0, 1), {}, {0: 1}, {0, 1}, object(),
            [8], [-1], [VERY_LONG], [0, 8], [0, 0], [1, 2, 1], [True], [False], [0, True], [None], ["0"], [(0,)],
            [[0]], [[]], [0.0], [0, 1, 2, 3, 4, 5, 6, 7, 0])

NO_TICKS = NO_NUMBERS + (-1, -VERY_LONG)

NO_VALUES = NO_NUMBERS + (-1, 1000, VERY_LONG, -VERY_LONG)

NO_LIVES = NO_NUMBERS + (-1, 100, VERY_LONG, -VERY_LONG)

NO_ROOMS = NO_NUMBERS + (-1, 10, VERY_LONG)

NO_PATIENCE = NO_NUMBERS + (-1, 0, 21, VERY_LONG)

NO_LETTERS = NO_NUMBERS + (
    "ask", 5, ("ask",), ("no",), ("thing",), ("thing", ("a",)), ("thing", ("a",), 1), ("ask", ("a",), 1),
    ("no", ("a",), 1), ("no", ("a",), 1, 2), ("ask", ("a",), 1, 2), ("thing", ("a",), 1, 2, 3), ["ask", ("a",)],
    ["thing", ("a",), 1, 2], ("", ("a",)), ("Ask", ("a",)), ("asks", ("a",)), ("own", ("a",)), ("as", ("a",)),
    (b"ask", ("a",)), (None, ("a",)), (True, ("a",)), (("ask",), ("a",)), (["ask"], ("a",)), (("a",), "ask"),
    (["thing"], ("a",), 1, 2), ("things", ("a",), 1, 2),
) + tuple((word, name) for word in ("ask", "no") for name in NO_NAMES
) + tuple(("thing", name, 1, 2) for name in NO_NAMES
) + tuple(("thing", ("a",), value, 2) for value in NO_VALUES
) + tuple(("thing", ("a",), 1, until) for until in NO_TICKS)

# For a net, or laid tables, of three houses.
NO_HOUSES = NO_NUMBERS + (-1, 3, 7, 8, VERY_LONG, -VERY_LONG)

NO_SIZES = NO_NUMBERS + (-1, 0, 1, 9, VERY_LONG, -VERY_LONG)

NO_WAYS = (True, False, None, 0, 1, "", "01", (), ((0, 1),), {}, {(0, 1): 1}, object(), [0, 1], [(0,)], [()], [None],
           ["01"], [[0, 1]], [(0, 1, 2)], [(1, 0)], [(0, 0)], [(0, 3)], [(-1, 0)], [(2, 3)], [(0, VERY_LONG)],
           [(0, True)], [(False, 1)], [(False, True)], [(0, None)], [(None, 1)], [("0", 1)], [(0, 1.0)], [((0,), 1)],
           [([0], 1)], [(0, 1), (0, 1)], [(0, 1), (1, 2), (0, 1)], [(0, 1), (1, 0)], [(0, 1), None], [(0, 1), [1, 2]])

NO_HOMES = (True, False, None, 0, "", "a", (), ((0, ("a",)),), {}, object(), [0], [None], [("a",)], [()], [(0,)],
            [[0, ("a",)]], [(0, ("a",), 1)], [(("a",), 0)], [(0, ("a",)), None], [(0, ("a",)), (3, ("a",))]
            ) + tuple([(house, ("a",))] for house in NO_HOUSES) + tuple([(0, name)] for name in NO_BEGINNINGS)
