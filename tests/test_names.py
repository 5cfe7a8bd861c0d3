import itertools
import unittest

from namewants.errors import BadName, WantError
from namewants.names import PART_COUNT, begins, is_beginning, is_name, is_part, name_text, part_at, read_name
from wrongs import NO_BEGINNINGS, NO_NAMES

NAMES = (("a",), ("z",), ("0",), ("9",), ("ab",), ("a1b2",), ("zz99",), ("a", "b"), ("a", "a"), ("0", "1", "2", "3"),
         ("abcd", "e", "fg", "0000", "9z"))


class IsNameTest(unittest.TestCase):
    def test_names(self):
        for name in NAMES:
            with self.subTest(name=name):
                self.assertIs(is_name(name), True)
                self.assertIs(is_beginning(name), True)

    def test_every_small_letter_and_figure(self):
        for sign in "abcdefghijklmnopqrstuvwxyz0123456789":
            self.assertIs(is_name((sign,)), True)

    def test_no_other_sign_of_ascii(self):
        for number in range(128):
            sign = chr(number)
            self.assertIs(is_name(("a" + sign,)), "a" <= sign <= "z" or "0" <= sign <= "9", sign)

    def test_length_of_parts(self):
        for many in range(7):
            self.assertIs(is_name(("a" * many,)), 1 <= many <= 4, many)
            self.assertIs(is_name(("b", "a" * many)), 1 <= many <= 4, many)

    def test_number_of_parts(self):
        for many in range(8):
            self.assertIs(is_name(("a",) * many), 1 <= many <= 5, many)
            self.assertIs(is_beginning(("a",) * many), many <= 5, many)

    def test_no_names(self):
        for thing in NO_NAMES:
            with self.subTest(thing=thing):
                self.assertIs(is_name(thing), False)

    def test_no_beginnings(self):
        for thing in NO_BEGINNINGS:
            with self.subTest(thing=thing):
                self.assertIs(is_beginning(thing), False)

    def test_nothing_is_a_beginning_but_no_name(self):
        self.assertIs(is_beginning(()), True)
        self.assertIs(is_name(()), False)


class BeginsTest(unittest.TestCase):
    def test_first_parts(self):
        name = ("a", "b", "c", "d", "e")
        for many in range(6):
            self.assertIs(begins(name, name[:many]), True)

    def test_others(self):
        self.assertIs(begins(("a", "b"), ("b",)), False)
        self.assertIs(begins(("a", "b"), ("a", "c")), False)
        self.assertIs(begins(("a", "b"), ("a", "b", "c")), False)
        self.assertIs(begins(("a",), ("a", "a")), False)

    def test_whole_parts_count_not_signs(self):
        self.assertIs(begins(("ab",), ("a",)), False)
        self.assertIs(begins(("a", "bc"), ("a", "b")), False)

    def test_refuses_either(self):
        for thing in NO_NAMES:
            with self.subTest(thing=thing):
                self.assertRaises(BadName, begins, thing, ("a",))
                self.assertRaises(BadName, begins, thing, ())
        for thing in NO_BEGINNINGS:
            with self.subTest(thing=thing):
                self.assertRaises(BadName, begins, ("a",), thing)
                self.assertRaises(BadName, begins, thing, thing)


class TextTest(unittest.TestCase):
    def test_name_text(self):
        self.assertEqual(name_text(()), "/")
        self.assertEqual(name_text(("a",)), "/a")
        self.assertEqual(name_text(("a", "b")), "/a/b")
        self.assertEqual(name_text(("abcd", "1", "2", "3", "z9")), "/abcd/1/2/3/z9")

    def test_read_name(self):
        self.assertEqual(read_name("/"), ())
        self.assertEqual(read_name("/a"), ("a",))
        self.assertEqual(read_name("/a/b"), ("a", "b"))
        self.assertEqual(read_name("/abcd/1/2/3/z9"), ("abcd", "1", "2", "3", "z9"))
        self.assertIsInstance(read_name("/a"), tuple)

    def test_undo_one_another(self):
        for beginning in NAMES + ((),):
            self.assertEqual(read_name(name_text(beginning)), beginning)
            self.assertEqual(name_text(read_name(name_text(beginning))), name_text(beginning))

    def test_every_short_text_is_refused_or_told_back(self):
        for many in range(7):
            for signs in itertools.product("/aA", repeat=many):
                text = "".join(signs)
                try:
                    beginning = read_name(text)
                except BadName:
                    parts = text.split("/")[1:]
                    right = text == "/" or (text[:1] == "/" and all(
                        1 <= len(part) <= 4 and "A" not in part for part in parts) and 1 <= len(parts) <= 5)
                    self.assertFalse(right, text)
                else:
                    self.assertEqual(name_text(beginning), text)

    def test_name_text_refuses(self):
        for thing in NO_BEGINNINGS:
            with self.subTest(thing=thing):
                self.assertRaises(BadName, name_text, thing)

    def test_read_name_refuses(self):
        wrong = ("", "a", "a/b", "//", "/a/", "//a", "/a//b", "/A", "/a b", "/ ", " /a", "/a ", "/a\n", "/abcde",
                 "/a/b/c/d/e/f", "/-", "/a-b", "\\a", "/\u00e9", True, False, None, 0, 1, 2.0, b"/a", (), ("a",),
                 ("/", "a"), [], ["/"], ["/", "a"], {}, object())
        for thing in wrong:
            with self.subTest(thing=thing):
                self.assertRaises(BadName, read_name, thing)

    def test_refusal_is_a_want_error(self):
        self.assertRaises(WantError, read_name, "")


class PartAtTest(unittest.TestCase):
    def test_each_part_once(self):
        told = [part_at(number) for number in range(36 + 36 * 36)]
        self.assertEqual(len(set(told)), len(told))
        self.assertTrue(all(is_part(part) for part in told))
        self.assertEqual({len(part) for part in told[:36]}, {1})
        self.assertEqual({len(part) for part in told[36:]}, {2})

    def test_how_many(self):
        self.assertEqual(len(part_at(PART_COUNT - 1)), 4)
        self.assertEqual(len(part_at(PART_COUNT)), 5)


if __name__ == "__main__":
    unittest.main()
