"""Things that are none of what is asked, for all tests."""

VERY_LONG = 10 ** 5000

NO_NUMBERS = (True, False, None, 2.0, "", "1", b"1", (), (1,), [], [1], {}, {1: 1}, object())

NO_PARTS = ("", "abcde", "A", "aB", " ", "a b", "a ", "/", "a/b", "-", "a-b", "_", ".", "a\n", "\u00e9", "\u00b2",
            "\u0663", True, False, None, 0, 1, b"a", ("a",), ["a"], (), [])

NO_BEGINNINGS = (True, False, None, 0, 1, 2.0, "", "a", "/", "/a", b"a", [], ["a"], {}, {"a": 1}, object(),
                 ("a", "b", "c", "d", "e", "f"), ("a",) * 7, (("a", "b"),), ("a", ("b",))
                 ) + tuple((part,) for part in NO_PARTS) + tuple(("a", part, "b") for part in NO_PARTS)

NO_NAMES = NO_BEGINNINGS + ((),)

NO_SIDES = (True, False, None, 0, 1, 2.0, "", "0", "01", b"0", (), (0,), (0, 1), {}, {0: 1}, {0, 1}, object(),
            [8], [-1], [VERY_LONG], [0, 8], [0, 0], [1, 2, 1], [True], [False], [0, True], [None], ["0"], [(0,)],
            [[0]], [[]], [0.0], [0, 1, 2, 3, 4, 5, 6, 7, 0])
