import random
import unittest

from namewants.errors import BadName, BadNumber
from namewants.keeps import Keeps
from wrongs import NO_NAMES, NO_NUMBERS, VERY_LONG

A, B, C, D = ("a",), ("b",), ("a", "c"), ("d", "1", "2", "3", "4")


def filled(room, *names):
    """Keeps with these names, put in turn, each until 10."""
    keeps = Keeps(room)
    for value, name in enumerate(names):
        keeps.put(name, value, 10, 0)
    return keeps


class PlainKeeps:
    """Keeps as the document tells them, as a plain list."""

    def __init__(self, room):
        self.room = room
        self.list = []

    def put(self, name, value, until, now):
        self.list = [row for row in self.list if row[0] != name]
        if until > now:
            self.list = (self.list + [(name, value, until)])
            if len(self.list) > self.room:
                self.list = self.list[1:]

    def got(self, name, now):
        for row in self.list:
            if row[0] == name and row[2] > now:
                self.list = [other for other in self.list if other != row] + [row]
                return row[1:]
        return None

    def aged(self, now):
        gone = [row[0] for row in self.list if row[2] <= now]
        self.list = [row for row in self.list if row[2] > now]
        return gone


class PutTest(unittest.TestCase):
    def test_new_ones_are_empty(self):
        keeps = Keeps(3)
        self.assertEqual(keeps.rows(), [])
        self.assertEqual(len(keeps), 0)

    def test_goes_behind_all_others(self):
        keeps = Keeps(3)
        self.assertIsNone(keeps.put(B, 5, 7, 2))
        self.assertIsNone(keeps.put(A, 0, 3, 2))
        self.assertIsNone(keeps.put(C, 999, 4, 2))
        self.assertEqual(keeps.rows(), [(B, 5, 7), (A, 0, 3), (C, 999, 4)])
        self.assertEqual(len(keeps), 3)

    def test_foremost_goes_without_room(self):
        keeps = filled(2, A, B, C)
        self.assertEqual(keeps.rows(), [(B, 1, 10), (C, 2, 10)])

    def test_foremost_goes_whatever_its_until(self):
        keeps = Keeps(2)
        keeps.put(A, 1, 100, 0)
        keeps.put(B, 2, 3, 0)
        keeps.put(C, 3, 9, 5)
        self.assertEqual(keeps.rows(), [(B, 2, 3), (C, 3, 9)])

    def test_room_0_keeps_nothing(self):
        keeps = filled(0, A, B)
        self.assertEqual(keeps.rows(), [])
        self.assertEqual(len(keeps), 0)
        self.assertIsNone(keeps.got(B, 0))
        self.assertEqual(keeps.aged(99), [])

    def test_room_1_keeps_the_last(self):
        keeps = filled(1, A, B)
        self.assertEqual(keeps.rows(), [(B, 1, 10)])

    def test_room_9(self):
        names = [(sign,) for sign in "abcdefghij"]
        keeps = filled(9, *names[:9])
        self.assertEqual([row[0] for row in keeps.rows()], names[:9])
        keeps.put(names[9], 1, 10, 0)
        self.assertEqual([row[0] for row in keeps.rows()], names[1:])
        self.assertEqual(len(keeps), 9)

    def test_again_under_the_same_name(self):
        keeps = filled(3, A, B, C)
        keeps.put(A, 50, 20, 0)
        self.assertEqual(keeps.rows(), [(B, 1, 10), (C, 2, 10), (A, 50, 20)])

    def test_again_with_a_lesser_until(self):
        keeps = filled(3, A, B)
        keeps.put(A, 50, 5, 0)
        self.assertEqual(keeps.rows(), [(B, 1, 10), (A, 50, 5)])

    def test_until_by_now(self):
        for until, kept in ((4, False), (5, False), (6, True)):
            with self.subTest(until=until):
                keeps = Keeps(2)
                self.assertIsNone(keeps.put(A, 1, until, 5))
                self.assertEqual(len(keeps), 1 if kept else 0)

    def test_elder_one_goes_if_until_is_not_greater(self):
        for until in (0, 4, 5):
            with self.subTest(until=until):
                keeps = filled(3, A, B, C)
                keeps.put(B, 9, until, 5)
                self.assertEqual(keeps.rows(), [(A, 0, 10), (C, 2, 10)])

    def test_nobody_else_goes_if_until_is_not_greater(self):
        keeps = filled(2, A, B)
        keeps.put(C, 9, 5, 5)
        self.assertEqual(keeps.rows(), [(A, 0, 10), (B, 1, 10)])

    def test_great_ticks(self):
        keeps = Keeps(1)
        keeps.put(A, 1, VERY_LONG + 1, VERY_LONG)
        self.assertEqual(keeps.got(A, VERY_LONG), (1, VERY_LONG + 1))
        self.assertEqual(keeps.aged(VERY_LONG + 1), [A])

    def test_tick_0(self):
        keeps = Keeps(1)
        keeps.put(A, 1, 0, 0)
        self.assertEqual(keeps.rows(), [])
        keeps.put(A, 1, 1, 0)
        self.assertEqual(keeps.rows(), [(A, 1, 1)])


class GotTest(unittest.TestCase):
    def test_goes_behind_all_others(self):
        keeps = filled(3, A, B, C)
        self.assertEqual(keeps.got(A, 0), (0, 10))
        self.assertEqual([row[0] for row in keeps.rows()], [B, C, A])
        self.assertEqual(keeps.got(C, 9), (2, 10))
        self.assertEqual([row[0] for row in keeps.rows()], [B, A, C])
        keeps.put(D, 7, 10, 0)
        self.assertEqual([row[0] for row in keeps.rows()], [A, C, D])

    def test_tells_a_tuple(self):
        self.assertIsInstance(filled(1, A).got(A, 0), tuple)

    def test_not_there(self):
        keeps = filled(3, A, C)
        self.assertIsNone(keeps.got(B, 0))
        self.assertIsNone(keeps.got(("a", "b"), 0))
        self.assertEqual([row[0] for row in keeps.rows()], [A, C])

    def test_until_by_now(self):
        for now, told in ((9, (0, 10)), (10, None), (11, None)):
            with self.subTest(now=now):
                self.assertEqual(filled(2, A, B).got(A, now), told)

    def test_one_that_is_no_more_stays_where_it_is(self):
        keeps = filled(2, A, B)
        self.assertIsNone(keeps.got(A, 10))
        self.assertEqual(keeps.rows(), [(A, 0, 10), (B, 1, 10)])

    def test_now_that_does_not_rise(self):
        keeps = filled(2, A, B)
        self.assertIsNone(keeps.got(A, 50))
        self.assertEqual(keeps.got(A, 3), (0, 10))
        self.assertEqual(keeps.got(A, 3), (0, 10))
        keeps.put(C, 5, 2, 1)
        self.assertEqual(keeps.rows(), [(A, 0, 10), (C, 5, 2)])
        self.assertEqual(keeps.aged(1), [])
        self.assertEqual(keeps.aged(10), [A, C])


class AgedTest(unittest.TestCase):
    def test_in_order_and_they_go(self):
        keeps = Keeps(9)
        keeps.put(C, 1, 5, 0)
        keeps.put(D, 2, 7, 0)
        keeps.put(B, 3, 4, 0)
        keeps.put(A, 4, 5, 0)
        self.assertEqual(keeps.aged(3), [])
        self.assertEqual(keeps.aged(5), [C, B, A])
        self.assertEqual(keeps.rows(), [(D, 2, 7)])
        self.assertEqual(keeps.aged(5), [])
        self.assertEqual(keeps.aged(99), [D])
        self.assertEqual(len(keeps), 0)

    def test_order_follows_got(self):
        keeps = filled(3, A, B, C)
        keeps.got(A, 0)
        self.assertEqual(keeps.aged(10), [B, C, A])

    def test_until_by_now(self):
        for now, told in ((9, []), (10, [A]), (11, [A])):
            self.assertEqual(filled(1, A).aged(now), told)


class WholeKeepsTest(unittest.TestCase):
    def test_as_the_plain_ones(self):
        chance = random.Random(31)
        for room in range(10):
            keeps, plain = Keeps(room), PlainKeeps(room)
            for number in range(600):
                name = (chance.choice("abcdefghijklm"),)
                until, now = chance.randrange(12), chance.randrange(8)
                deed = chance.randrange(5)
                if deed < 3:
                    self.assertIsNone(keeps.put(name, number, until, now))
                    plain.put(name, number, until, now)
                elif deed == 3:
                    self.assertEqual(keeps.got(name, now), plain.got(name, now))
                elif chance.randrange(4) == 0:
                    self.assertEqual(keeps.aged(now), plain.aged(now))
                self.assertEqual(keeps.rows(), plain.list)
                self.assertEqual(len(keeps), len(plain.list))

    def test_lists_are_new(self):
        keeps = filled(2, A, B)
        keeps.rows().clear()
        self.assertEqual(len(keeps.rows()), 2)
        keeps.aged(0).append(C)
        self.assertEqual(keeps.aged(0), [])

    def test_keeps_do_not_share(self):
        one, other = Keeps(2), Keeps(2)
        one.put(A, 1, 2, 0)
        self.assertEqual(other.rows(), [])


class RefusalsTest(unittest.TestCase):
    def setUp(self):
        self.keeps = filled(3, A, B)
        self.before = self.keeps.rows()

    def refused(self, error, call, *things):
        with self.subTest(things=things[:1] if VERY_LONG in things else things):
            self.assertRaises(error, call, *things)
            self.assertEqual(self.keeps.rows(), self.before)
            self.assertEqual(len(self.keeps), 2)

    def test_room(self):
        for room in range(10):
            self.assertEqual(len(Keeps(room)), 0)
        for room in NO_NUMBERS + (-1, 10):
            with self.subTest(room=room):
                self.assertRaises(BadNumber, Keeps, room)
        self.assertRaises(BadNumber, Keeps, VERY_LONG)

    def test_put_name(self):
        for name in NO_NAMES:
            self.refused(BadName, self.keeps.put, name, 1, 9, 0)

    def test_put_value(self):
        for value in NO_NUMBERS + (-1, 1000, VERY_LONG):
            self.refused(BadNumber, self.keeps.put, A, value, 9, 0)
            self.refused(BadNumber, self.keeps.put, A, value, 0, 9)

    def test_put_until_and_now(self):
        for tick in NO_NUMBERS + (-1, -VERY_LONG):
            self.refused(BadNumber, self.keeps.put, A, 1, tick, 0)
            self.refused(BadNumber, self.keeps.put, A, 1, 9, tick)

    def test_put_name_first(self):
        self.refused(BadName, self.keeps.put, (), 1000, 9, 0)
        self.refused(BadName, self.keeps.put, (), 1, None, 0)
        self.refused(BadName, self.keeps.put, (), 1, 9, True)
        self.refused(BadName, self.keeps.put, None, None, None, None)

    def test_put_of_one_that_would_not_be_kept(self):
        self.refused(BadNumber, self.keeps.put, A, 1, 0, -1)
        self.refused(BadNumber, self.keeps.put, A, 1, -1, 0)

    def test_put_without_room(self):
        self.assertRaises(BadName, Keeps(0).put, (), 1, 9, 0)
        self.assertRaises(BadNumber, Keeps(0).put, A, 1000, 9, 0)

    def test_got(self):
        for name in NO_NAMES:
            self.refused(BadName, self.keeps.got, name, 0)
            self.refused(BadName, self.keeps.got, name, None)
        for now in NO_NUMBERS + (-1,):
            self.refused(BadNumber, self.keeps.got, A, now)
            self.refused(BadNumber, self.keeps.got, ("not",), now)

    def test_aged(self):
        for now in NO_NUMBERS + (-1,):
            self.refused(BadNumber, self.keeps.aged, now)


if __name__ == "__main__":
    unittest.main()
