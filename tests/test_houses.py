import itertools
import random
import unittest

from namewants.errors import BadLetter, BadName, BadNumber, BadSides, NoWay, WantError
from namewants.houses import House, is_letter
from plain import PlainHouse
from states import copied, frozen
from wrongs import (NO_BEGINNINGS, NO_LETTERS, NO_LIVES, NO_NAMES, NO_NUMBERS, NO_PATIENCE, NO_ROOMS, NO_SIDES,
                    NO_TICKS, NO_VALUES, VERY_LONG)

A, B, C, D = ("a",), ("b",), ("a", "c"), ("d", "1", "2", "3", "4")


def house_of(sides, table, **more):
    """House 0 with these sides, and a table of these rows."""
    house = House(0, sides, **more)
    for beginning, row in table.items():
        house.teach(beginning, row)
    return house


def ask_to(*sides, name=A):
    return [(side, ("ask", name)) for side in sides]


def no_to(*sides, name=A):
    return [(side, ("no", name)) for side in sides]


def thing_to(*sides, name=A, value=5, until=9):
    return [(side, ("thing", name, value, until)) for side in sides]


class LetterTest(unittest.TestCase):
    def test_letters(self):
        for name in (A, C, D, ("zz99",)):
            self.assertIs(is_letter(("ask", name)), True)
            self.assertIs(is_letter(("no", name)), True)
            for value, until in ((0, 0), (999, 0), (5, 1), (1, VERY_LONG)):
                self.assertIs(is_letter(("thing", name, value, until)), True)

    def test_none(self):
        for number, thing in enumerate(NO_LETTERS):
            with self.subTest(number=number):
                self.assertIs(is_letter(thing), False)


class HaveTest(unittest.TestCase):
    """[42]: asked for a thing that it has."""

    def test_own_thing_to_a_side(self):
        house = house_of([1, 2], {(): [2]})
        house.own(A, 7, 3)
        self.assertEqual(house.come(1, ("ask", A), 10), thing_to(1, value=7, until=13))
        self.assertEqual(house.come(2, ("ask", A), 11), thing_to(2, value=7, until=14))
        self.assertEqual(house.waits(), [])
        self.assertEqual(house.keeps(), [])

    def test_own_thing_to_an_own_asker(self):
        house = house_of([1], {(): [1]})
        house.own(A, 7, 3)
        self.assertEqual(house.ask(A, 10), (0, []))
        self.assertEqual(house.end(0), (7,))
        self.assertEqual(house.waits(), [])

    def test_own_thing_with_life_0(self):
        house = house_of([1], {})
        house.own(A, 0, 0)
        self.assertEqual(house.come(1, ("ask", A), 4), thing_to(1, value=0, until=4))
        self.assertEqual(house.ask(A, 4), (0, []))
        self.assertEqual(house.end(0), (0,))

    def test_own_thing_at_a_great_tick(self):
        house = house_of([1], {})
        house.own(A, 1, 99)
        self.assertEqual(house.come(1, ("ask", A), VERY_LONG), thing_to(1, value=1, until=VERY_LONG + 99))

    def test_own_thing_of_another_name(self):
        house = house_of([1, 2], {(): [2]})
        house.own(A, 7, 3)
        for name in (C, B):
            self.assertEqual(house.come(1, ("ask", name), 0), ask_to(2, name=name))

    def test_own_thing_ahead_of_a_kept_one(self):
        house = self.keeping()
        house.own(A, 7, 3)
        self.assertEqual(house.come(1, ("ask", A), 0), thing_to(1, value=7, until=3))
        self.assertEqual(house.keeps(), [(A, 5, 9), (B, 6, 9)])

    def test_own_thing_of_late(self):
        house = house_of([1, 2], {(): [2]})
        house.come(1, ("ask", A), 0)
        house.own(A, 7, 3)
        self.assertEqual(house.come(2, ("ask", A), 1), thing_to(2, value=7, until=4))
        house.disown(A)
        self.assertEqual(house.come(1, ("ask", A), 1), [])

    def keeping(self, now=0):
        """A house that keeps A and B, both until 9."""
        house = house_of([1, 2], {(): [2]})
        for value, name in ((5, A), (6, B)):
            house.ask(name, now)
            house.come(2, ("thing", name, value, 9), now)
        self.assertEqual(house.keeps(), [(A, 5, 9), (B, 6, 9)])
        return house

    def test_kept_thing_is_got(self):
        house = self.keeping()
        self.assertEqual(house.come(1, ("ask", A), 8), thing_to(1))
        self.assertEqual(house.keeps(), [(B, 6, 9), (A, 5, 9)])
        self.assertEqual(house.ask(B, 8), (2, []))
        self.assertEqual(house.end(2), (6,))
        self.assertEqual(house.keeps(), [(A, 5, 9), (B, 6, 9)])
        self.assertEqual(house.waits(), [])

    def test_kept_thing_whose_until_has_come(self):
        house = self.keeping()
        self.assertEqual(house.come(1, ("ask", A), 9), ask_to(2))
        self.assertEqual(house.waits(), [(A, 9, [1], [2], [])])

    def test_heard_at_this_same_now_without_room(self):
        for until in (4, 5, 50):
            house = house_of([1, 2, 3], {(): [2]}, room=0)
            house.come(1, ("ask", A), 4)
            self.assertEqual(house.come(2, ("thing", A, 5, until), 4), thing_to(1, until=until))
            self.assertEqual(house.keeps(), [])
            self.assertEqual(house.come(3, ("ask", A), 4), thing_to(3, until=until))
            self.assertEqual(house.come(2, ("ask", A), 4), thing_to(2, until=until))
            self.assertEqual(house.ask(A, 4), (0, []))
            self.assertEqual(house.end(0), (5,))
            self.assertEqual(house.waits(), [])

    def test_heard_at_this_same_now_as_it_ends(self):
        house = house_of([1, 2], {(): [2]})
        house.ask(A, 4)
        house.come(2, ("thing", A, 5, 4), 4)
        self.assertEqual(house.end(0), (5,))
        self.assertEqual(house.keeps(), [])
        self.assertEqual(house.come(1, ("ask", A), 4), thing_to(1, until=4))

    def test_heard_at_this_same_now_and_gone_for_others(self):
        house = house_of([1, 2], {(): [2]}, room=1)
        for name in (A, B):
            house.ask(name, 4)
            house.come(2, ("thing", name, 5, 9), 4)
        self.assertEqual(house.keeps(), [(B, 5, 9)])
        self.assertEqual(house.come(1, ("ask", A), 4), thing_to(1))
        self.assertEqual(house.keeps(), [(B, 5, 9)])

    def test_heard_at_another_now(self):
        for now in (3, 5):
            house = house_of([1, 2], {(): [2]}, room=0)
            house.ask(A, 4)
            house.come(2, ("thing", A, 5, 9), 4)
            self.assertEqual(house.come(1, ("ask", A), now), ask_to(2))
            self.assertEqual(house.come(1, ("ask", B), 4), ask_to(2, name=B))

    def test_heard_at_a_now_that_comes_again(self):
        house = house_of([1, 2], {(): [2]}, room=0)
        house.ask(A, 4)
        house.come(2, ("thing", A, 5, 9), 4)
        house.ask(A, 7)
        house.come(2, ("thing", A, 6, 9), 7)
        house.tick(7)
        self.assertEqual(house.come(1, ("ask", A), 7), thing_to(1, value=6))
        self.assertEqual(house.come(1, ("ask", A), 4), thing_to(1, value=5))

    def test_heard_twice_at_one_now(self):
        house = house_of([1, 2], {(): [2]}, room=0)
        for now, value in ((4, 5), (6, 8)):
            house.ask(A, now)
            house.come(2, ("thing", A, value, 9), 4)
        self.assertEqual(house.come(1, ("ask", A), 4), thing_to(1, value=8))

    def test_what_was_nothing_was_not_heard(self):
        house = house_of([1, 2, 3], {(): [2, 3]})
        house.ask(A, 4)
        house.come(1, ("thing", A, 5, 9), 4)
        house.come(3, ("thing", B, 5, 9), 4)
        house.come(3, ("thing", A, 5, 3), 4)
        self.assertEqual(house.keeps(), [])
        self.assertEqual(house.come(1, ("ask", A), 4), [])
        self.assertEqual(house.come(1, ("ask", B), 4), ask_to(2, 3, name=B))


class BeginTest(unittest.TestCase):
    """[42]: asked for a thing that it neither has nor waits for."""

    def test_asked_by_an_own_asker(self):
        house = house_of([1, 2, 3], {(): [3, 1]})
        self.assertEqual(house.ask(A, 2), (0, ask_to(3, 1)))
        self.assertEqual(house.waits(), [(A, 2, [("own", 0)], [3, 1], [])])
        self.assertEqual(house.end(0), ())

    def test_asked_by_a_side(self):
        house = house_of([1, 2, 3], {(): [3, 1]})
        self.assertEqual(house.come(2, ("ask", A), 2), ask_to(3, 1))
        self.assertEqual(house.waits(), [(A, 2, [2], [3, 1], [])])

    def test_not_who_asks(self):
        house = house_of([1, 2, 3], {(): [3, 2, 1]})
        self.assertEqual(house.come(2, ("ask", A), 2), ask_to(3, 1))
        self.assertEqual(house.waits(), [(A, 2, [2], [3, 1], [])])

    def test_by_the_longest_beginning(self):
        house = house_of([1, 2, 3], {(): [1], ("a",): [2], ("a", "c"): [3], ("d", "1"): []})
        for name, side in ((B, 1), (A, 2), (("a", "b"), 2), (C, 3), (("a", "c", "d"), 3)):
            self.assertEqual(house.ask(name, 0)[1], ask_to(side, name=name))
        self.assertEqual(house.ask(D, 0), (5, []))
        self.assertEqual(house.end(5), (None,))

    def test_sides_of_the_table_that_are_none_of_its_own(self):
        house = house_of([1, 3], {(): [2, 3, 0, 7, 1]})
        self.assertEqual(house.ask(A, 0), (0, ask_to(3, 1)))
        self.assertEqual(house.waits(), [(A, 0, [("own", 0)], [3, 1], [])])

    def test_no_side_to_ask(self):
        for table in ({}, {(): []}, {B: [1, 2]}, {(): [0, 3, 4]}, {(): [1, 2], A: []}):
            house = house_of([1, 2], table)
            self.assertEqual(house.ask(A, 0), (0, []))
            self.assertEqual(house.end(0), (None,))
            self.assertEqual(house.come(1, ("ask", A), 0), no_to(1))
            self.assertEqual(house.waits(), [])

    def test_no_side_but_who_asks(self):
        house = house_of([1, 2], {(): [2, 5]})
        self.assertEqual(house.come(2, ("ask", A), 0), no_to(2))
        self.assertEqual(house.waits(), [])
        self.assertEqual(house.come(1, ("ask", A), 0), ask_to(2))

    def test_several_names(self):
        house = house_of([1, 2], {(): [1, 2]})
        for now, name in enumerate((C, A, B)):
            self.assertEqual(house.ask(name, now), (now, ask_to(1, 2, name=name)))
        self.assertEqual([wait[:2] for wait in house.waits()], [(C, 0), (A, 1), (B, 2)])


class JoinTest(unittest.TestCase):
    """[42]: asked for a thing that it waits for."""

    def test_put_behind(self):
        house = house_of([1, 2, 3, 4], {(): [4]})
        self.assertEqual(house.come(3, ("ask", A), 0), ask_to(4))
        self.assertEqual(house.ask(A, 1), (0, []))
        self.assertEqual(house.come(1, ("ask", A), 2), [])
        self.assertEqual(house.ask(A, 3), (1, []))
        self.assertEqual(house.waits(), [(A, 0, [3, ("own", 0), 1, ("own", 1)], [4], [])])

    def test_there_already(self):
        house = house_of([1, 2, 3], {(): [3]})
        house.come(2, ("ask", A), 0)
        house.come(1, ("ask", A), 0)
        self.assertEqual(house.come(2, ("ask", A), 4), [])
        self.assertEqual(house.waits(), [(A, 0, [2, 1], [3], [])])

    def test_own_asker_is_not_the_side_of_its_number(self):
        house = house_of([1, 2], {(): [2]})
        house.ask(A, 0)
        house.ask(A, 0)
        house.come(1, ("ask", A), 0)
        self.assertEqual(house.waits(), [(A, 0, [("own", 0), ("own", 1), 1], [2], [])])

    def test_the_first_asker_is_asked_when_it_is_not_the_only_one(self):
        house = house_of([1, 2, 3], {(): [1, 3]})
        self.assertEqual(house.come(1, ("ask", A), 0), ask_to(3))
        self.assertEqual(house.come(1, ("ask", A), 0), [])
        self.assertEqual(house.come(2, ("ask", A), 1), ask_to(1))
        self.assertEqual(house.waits(), [(A, 0, [1, 2], [3, 1], [])])
        self.assertEqual(house.come(2, ("ask", A), 1), [])
        self.assertEqual(house.ask(A, 1), (0, []))

    def test_the_first_asker_is_asked_beside_an_own_asker(self):
        house = house_of([1, 3], {(): [1, 3]})
        house.come(1, ("ask", A), 0)
        self.assertEqual(house.ask(A, 0), (0, ask_to(1)))

    def test_who_joins_may_be_asked_too(self):
        house = house_of([1, 2], {(): [2]})
        house.ask(A, 0)
        self.assertEqual(house.come(2, ("ask", A), 0), [])
        self.assertEqual(house.waits(), [(A, 0, [("own", 0), 2], [2], [])])

    def test_by_a_table_that_changed(self):
        house = house_of([1, 2, 3, 4], {(): [3]})
        house.come(1, ("ask", A), 0)
        house.teach(A, [4, 1, 3, 2, 6])
        self.assertEqual(house.come(1, ("ask", A), 1), ask_to(4, 2))
        self.assertEqual(house.waits(), [(A, 0, [1], [3, 4, 2], [])])
        self.assertEqual(house.come(2, ("ask", A), 1), ask_to(1))
        self.assertEqual(house.waits(), [(A, 0, [1, 2], [3, 4, 2, 1], [])])

    def test_by_a_table_that_is_no_more(self):
        house = house_of([1, 2, 3], {(): [3]})
        house.come(1, ("ask", A), 0)
        house.forget(())
        self.assertEqual(house.come(2, ("ask", A), 1), [])
        self.assertEqual(house.waits(), [(A, 0, [1, 2], [3], [])])

    def test_who_told_no_is_not_asked_again(self):
        house = house_of([1, 2, 3], {(): [2, 3]})
        house.ask(A, 0)
        house.come(3, ("no", A), 0)
        self.assertEqual(house.waits(), [(A, 0, [("own", 0)], [2], [3])])
        self.assertEqual(house.come(1, ("ask", A), 1), [])
        self.assertEqual(house.come(3, ("ask", A), 1), [])
        self.assertEqual(house.waits(), [(A, 0, [("own", 0), 1, 3], [2], [3])])

    def test_since_stays(self):
        house = house_of([1, 2], {(): [2]})
        house.ask(A, 3)
        house.ask(A, 5)
        self.assertEqual(house.waits()[0][1], 3)


class ThingTest(unittest.TestCase):
    """[43]: a thing comes."""

    def test_told_to_all_who_asked_in_turn(self):
        house = house_of([1, 2, 3, 4], {(): [4]})
        house.come(3, ("ask", A), 0)
        house.ask(A, 0)
        house.come(1, ("ask", A), 0)
        house.ask(A, 0)
        house.come(2, ("ask", A), 0)
        self.assertEqual(house.come(4, ("thing", A, 5, 9), 2), thing_to(3, 1, 2))
        self.assertEqual([house.end(0), house.end(1)], [(5,), (5,)])
        self.assertEqual(house.waits(), [])
        self.assertEqual(house.keeps(), [(A, 5, 9)])

    def test_not_to_the_side_that_told_it(self):
        house = house_of([1, 2, 3], {(): [2, 3]})
        house.come(1, ("ask", A), 0)
        house.come(2, ("ask", A), 0)
        house.come(3, ("ask", A), 0)
        self.assertEqual(house.come(2, ("thing", A, 5, 9), 0), thing_to(1, 3))

    def test_first_of_several(self):
        house = house_of([1, 2, 3], {(): [2, 3]})
        house.come(1, ("ask", A), 0)
        self.assertEqual(house.come(3, ("thing", A, 5, 9), 0), thing_to(1))
        self.assertEqual(house.come(2, ("thing", A, 6, 9), 0), [])
        self.assertEqual(house.keeps(), [(A, 5, 9)])

    def test_until_by_now(self):
        for until, heard in ((0, False), (6, False), (7, True), (8, True), (VERY_LONG, True)):
            house = house_of([1, 2], {(): [2]})
            house.come(1, ("ask", A), 7)
            house.ask(A, 7)
            told = house.come(2, ("thing", A, 5, until), 7)
            self.assertEqual(told, thing_to(1, until=until) if heard else no_to(1))
            self.assertEqual(house.end(0), (5,) if heard else (None,))
            self.assertEqual(house.keeps(), [(A, 5, until)] if until > 7 else [])
            self.assertEqual(house.waits(), [])

    def test_too_old_beside_others(self):
        house = house_of([1, 2, 3], {(): [2, 3]})
        house.come(1, ("ask", A), 7)
        self.assertEqual(house.come(2, ("thing", A, 5, 6), 7), [])
        self.assertEqual(house.waits(), [(A, 7, [1], [3], [2])])
        self.assertEqual(house.come(3, ("thing", A, 6, 9), 7), thing_to(1, value=6))

    def test_too_old_leaves_the_keeps(self):
        house = house_of([1, 2], {(): [2]})
        house.ask(A, 0)
        house.come(2, ("thing", A, 5, 3), 0)
        house.ask(A, 3)
        house.come(2, ("thing", A, 6, 2), 3)
        self.assertEqual(house.keeps(), [(A, 5, 3)])

    def test_elder_one_goes(self):
        house = house_of([1, 2], {(): [2]})
        house.ask(A, 0)
        house.come(2, ("thing", A, 5, 3), 0)
        house.ask(A, 3)
        house.come(2, ("thing", A, 6, 3), 3)
        self.assertEqual(house.keeps(), [])

    def test_goes_behind_in_the_keeps(self):
        house = house_of([1, 2], {(): [2]}, room=2)
        for value, name in enumerate((A, B, C)):
            house.ask(name, 0)
            house.come(2, ("thing", name, value, 9), 0)
        self.assertEqual(house.keeps(), [(B, 1, 9), (C, 2, 9)])

    def test_from_a_side_that_was_not_asked(self):
        house = house_of([1, 2, 3], {(): [2]})
        house.come(1, ("ask", A), 0)
        for side in (1, 3):
            before = frozen(house)
            self.assertEqual(house.come(side, ("thing", A, 5, 9), 0), [])
            self.assertEqual(frozen(house), before)

    def test_from_a_side_that_told_no(self):
        house = house_of([1, 2, 3], {(): [2, 3]})
        house.come(1, ("ask", A), 0)
        house.come(2, ("no", A), 0)
        before = frozen(house)
        self.assertEqual(house.come(2, ("thing", A, 5, 9), 0), [])
        self.assertEqual(frozen(house), before)

    def test_of_a_name_that_is_not_waited_for(self):
        house = house_of([1, 2], {(): [2]})
        house.ask(A, 0)
        for name in (B, C):
            before = frozen(house)
            self.assertEqual(house.come(2, ("thing", name, 5, 9), 0), [])
            self.assertEqual(frozen(house), before)

    def test_other_waits_stay(self):
        house = house_of([1, 2], {(): [2]})
        for name in (A, B, C):
            house.ask(name, 0)
        house.come(2, ("thing", B, 5, 9), 0)
        self.assertEqual([wait[0] for wait in house.waits()], [A, C])
        self.assertEqual([house.end(asker) for asker in range(3)], [(), (5,), ()])


class NoTest(unittest.TestCase):
    """[43]: a no comes."""

    def test_of_all_in_any_order(self):
        for order in itertools.permutations((1, 2, 3)):
            house = house_of([1, 2, 3, 4], {(): [1, 2, 3]})
            house.come(4, ("ask", A), 0)
            house.ask(A, 0)
            for place, side in enumerate(order[:2], 1):
                self.assertEqual(house.come(side, ("no", A), 1), [])
                left = [other for other in (1, 2, 3) if other not in order[:place]]
                self.assertEqual(house.waits(), [(A, 0, [4, ("own", 0)], left, list(order[:place]))])
                self.assertEqual(house.end(0), ())
            self.assertEqual(house.come(order[2], ("no", A), 1), no_to(4))
            self.assertEqual(house.waits(), [])
            self.assertEqual(house.end(0), (None,))
            self.assertEqual(house.keeps(), [])

    def test_told_to_all_who_asked_in_turn_that_side_too(self):
        house = house_of([1, 2, 3], {(): [2]})
        house.come(3, ("ask", A), 0)
        house.come(2, ("ask", A), 0)
        house.ask(A, 0)
        house.come(1, ("ask", A), 0)
        self.assertEqual(house.come(2, ("no", A), 0), no_to(3, 2, 1))
        self.assertEqual(house.end(0), (None,))

    def test_from_a_side_that_was_not_asked(self):
        house = house_of([1, 2, 3], {(): [2]})
        house.come(1, ("ask", A), 0)
        for side in (1, 3):
            before = frozen(house)
            self.assertEqual(house.come(side, ("no", A), 0), [])
            self.assertEqual(frozen(house), before)

    def test_twice_from_one_side(self):
        house = house_of([1, 2, 3], {(): [2, 3]})
        house.come(1, ("ask", A), 0)
        house.come(2, ("no", A), 0)
        self.assertEqual(house.come(2, ("no", A), 0), [])
        self.assertEqual(house.waits(), [(A, 0, [1], [3], [2])])

    def test_of_a_name_that_is_not_waited_for(self):
        house = house_of([1, 2], {(): [2]})
        house.ask(A, 0)
        for name in (B, C):
            before = frozen(house)
            self.assertEqual(house.come(2, ("no", name), 0), [])
            self.assertEqual(frozen(house), before)

    def test_asked_anew_behind_a_no(self):
        house = house_of([1, 2], {(): [2]})
        house.ask(A, 0)
        house.come(2, ("no", A), 0)
        self.assertEqual(house.ask(A, 0), (1, ask_to(2)))
        self.assertEqual(house.come(2, ("thing", A, 5, 9), 0), [])
        self.assertEqual([house.end(0), house.end(1)], [(None,), (5,)])


class TickTest(unittest.TestCase):
    """[44]"""

    def test_keeps_are_aged(self):
        house = house_of([1, 2], {(): [2]})
        for name, until in ((A, 3), (B, 5), (C, 4)):
            house.ask(name, 0)
            house.come(2, ("thing", name, 5, until), 0)
        self.assertEqual(house.tick(2), [])
        self.assertEqual([row[0] for row in house.keeps()], [A, B, C])
        self.assertEqual(house.tick(4), [])
        self.assertEqual(house.keeps(), [(B, 5, 5)])
        house.tick(5)
        self.assertEqual(house.keeps(), [])

    def test_wait_by_now(self):
        for wait in (1, 6, 20):
            for ticks, ended in ((-1, False), (0, True), (1, True), (VERY_LONG, True)):
                house = house_of([1, 2], {(): [2]}, wait=wait)
                house.come(1, ("ask", A), 3)
                house.ask(A, 3)
                self.assertEqual(house.tick(3 + wait + ticks), no_to(1) if ended else [])
                self.assertEqual(house.end(0), (None,) if ended else ())
                self.assertEqual(len(house.waits()), 0 if ended else 1)

    def test_default_wait_is_6(self):
        house = house_of([1], {(): [1]})
        house.ask(A, 0)
        house.tick(5)
        self.assertEqual(house.end(0), ())
        house.tick(6)
        self.assertEqual(house.end(0), (None,))

    def test_default_room_is_4(self):
        house = house_of([1], {(): [1]})
        for number in range(6):
            house.ask((str(number),), 0)
            house.come(1, ("thing", (str(number),), number, 9), 0)
        self.assertEqual([row[0] for row in house.keeps()], [("2",), ("3",), ("4",), ("5",)])

    def test_several_in_the_order_in_which_they_began(self):
        house = house_of([1, 2, 3], {(): [3]}, wait=4)
        for now, side, name in ((2, 1, C), (1, 2, A), (3, 1, B), (3, 2, D), (3, 2, C)):
            house.come(side, ("ask", name), now)
        self.assertEqual(house.tick(6), [(1, ("no", C)), (2, ("no", C)), (2, ("no", A))])
        self.assertEqual([wait[0] for wait in house.waits()], [B, D])
        self.assertEqual(house.tick(7), [(1, ("no", B)), (2, ("no", D))])
        self.assertEqual(house.waits(), [])

    def test_began_anew(self):
        house = house_of([1, 2], {(): [2]}, wait=2)
        house.come(1, ("ask", A), 0)
        house.come(1, ("ask", B), 0)
        house.come(2, ("no", A), 0)
        house.come(1, ("ask", A), 0)
        self.assertEqual(house.tick(2), [(1, ("no", B)), (1, ("no", A))])

    def test_all_who_asked_in_turn(self):
        house = house_of([1, 2, 3], {(): [3]}, wait=1)
        house.come(2, ("ask", A), 0)
        house.ask(A, 0)
        house.come(3, ("ask", A), 0)
        house.come(1, ("ask", A), 0)
        self.assertEqual(house.tick(1), no_to(2, 3, 1))
        self.assertEqual(house.end(0), (None,))

    def test_answers_behind_the_end_are_nothing(self):
        house = house_of([1, 2], {(): [2]}, wait=1)
        house.ask(A, 0)
        house.tick(1)
        self.assertEqual(house.come(2, ("thing", A, 5, 9), 1), [])
        self.assertEqual(house.come(2, ("no", A), 1), [])
        self.assertEqual(house.end(0), (None,))
        self.assertEqual(house.keeps(), [])

    def test_asked_anew_behind_the_end(self):
        house = house_of([1, 2], {(): [2]}, wait=1)
        house.ask(A, 0)
        house.tick(1)
        self.assertEqual(house.ask(A, 1), (1, ask_to(2)))
        self.assertEqual(house.waits(), [(A, 1, [("own", 1)], [2], [])])


class EndTest(unittest.TestCase):
    """[45]"""

    def test_one_each(self):
        house = house_of([1, 2], {(): [1], B: [2]}, wait=2)
        house.own(C, 0, 1)
        asks = [house.ask(name, 0)[0] for name in (A, C, B, A, ("b", "b"))]
        self.assertEqual(asks, [0, 1, 2, 3, 4])
        self.assertEqual([house.end(asker) for asker in asks], [(), (0,), (), (), ()])
        house.come(1, ("thing", A, 999, 9), 0)
        house.come(2, ("no", B), 0)
        self.assertEqual([house.end(asker) for asker in asks], [(999,), (0,), (None,), (999,), ()])
        house.tick(2)
        self.assertEqual([house.end(asker) for asker in asks], [(999,), (0,), (None,), (999,), (None,)])

    def test_refused_asks_have_no_number(self):
        house = house_of([1], {(): [1]})
        self.assertRaises(BadName, house.ask, (), 0)
        self.assertRaises(BadNumber, house.ask, A, -1)
        self.assertEqual(house.ask(A, 0)[0], 0)
        self.assertEqual(house.ask(B, 0)[0], 1)

    def test_no_asker(self):
        house = house_of([1], {(): [1]})
        for asker in NO_NUMBERS + (-1, 0, 1, VERY_LONG, -VERY_LONG):
            self.assertRaises(BadNumber, house.end, asker)
        house.ask(A, 0)
        house.ask(A, 0)
        self.assertEqual(house.end(1), ())
        for asker in NO_NUMBERS + (-1, 2, VERY_LONG, -VERY_LONG):
            self.assertRaises(BadNumber, house.end, asker)


class HoldingTest(unittest.TestCase):
    """[41]: what a house has, and what it tells of that."""

    def test_new_one(self):
        house = House(3, [])
        self.assertEqual([house.waits(), house.keeps(), house.owns(), house.table()], [[], [], [], []])

    def test_things_of_its_own(self):
        house = House(0, [1])
        for name, value, life in ((B, 0, 0), (C, 999, 99), (A, 5, 1), (B, 3, 2)):
            self.assertIsNone(house.own(name, value, life))
        self.assertEqual(house.owns(), [(A, 5, 1), (C, 999, 99), (B, 3, 2)])
        self.assertIsNone(house.disown(C))
        self.assertEqual(house.owns(), [(A, 5, 1), (B, 3, 2)])
        for name in (C, D):
            self.assertRaises(BadName, house.disown, name)

    def test_table(self):
        house = House(0, [1])
        for beginning, sides in ((B, [7, 0]), ((), []), (A, [1])):
            self.assertIsNone(house.teach(beginning, sides))
        house.teach(A, [2, 1])
        self.assertEqual(house.table(), [((), []), (A, [2, 1]), (B, [7, 0])])
        self.assertIsNone(house.forget(()))
        self.assertEqual(house.table(), [(A, [2, 1]), (B, [7, 0])])
        self.assertRaises(BadName, house.forget, ())

    def test_houses_do_not_share(self):
        one, other = House(0, [1]), House(0, [1])
        one.own(A, 1, 1)
        one.teach((), [1])
        one.ask(B, 0)
        self.assertEqual(frozen(other), frozen(House(0, [1])))

    def full(self):
        house = house_of([1, 2, 3], {(): [2, 3], C: []})
        house.own(D, 1, 1)
        house.ask(A, 0)
        house.come(1, ("ask", A), 0)
        house.come(2, ("no", A), 0)
        house.ask(B, 0)
        house.come(3, ("thing", B, 5, 9), 0)
        return house

    def test_lists_that_are_told_are_new(self):
        house = self.full()
        before = frozen(house)
        for told in (house.waits(), house.keeps(), house.owns(), house.table()):
            self.assertIsInstance(told, list)
            for row in told:
                self.assertIsInstance(row, tuple)
                for part in row:
                    if isinstance(part, list):
                        part.append(7)
            told.clear()
        self.assertEqual(frozen(house), before)

    def test_letters_that_are_told_are_new(self):
        house = self.full()
        other = copied(house)
        for one in (house, other):
            told = [one.ask(C + ("x",), 0)[1], one.come(3, ("ask", ("z",)), 0), one.come(3, ("no", A), 0), one.tick(9)]
            if one is house:
                for letters in told:
                    letters.append((1, ("no", A)))
        self.assertEqual(frozen(house), frozen(other))

    def test_told_twice_alike(self):
        house = self.full()
        before = frozen(house)
        for ask in (house.waits, house.keeps, house.owns, house.table, lambda: house.end(0), lambda: house.end(1)):
            self.assertEqual(ask(), ask())
        self.assertEqual(frozen(house), before)

    def test_lists_that_were_handed_in(self):
        sides, row = [1, 2], [2, 1]
        house = House(0, sides)
        house.teach((), row)
        sides.append(3)
        row.clear()
        self.assertEqual(house.table(), [((), [2, 1])])
        self.assertRaises(NoWay, house.come, 3, ("ask", A), 0)
        self.assertEqual(house.ask(A, 0), (0, ask_to(2, 1)))
        self.assertEqual((sides, row), ([1, 2, 3], []))

    def test_handed_in_is_not_changed(self):
        sides, row = [2, 1], [1, 2]
        house = House(0, sides)
        house.teach((), row)
        house.ask(A, 0)
        house.come(1, ("no", A), 0)
        self.assertEqual((sides, row), ([2, 1], [1, 2]))


class RefusalsTest(unittest.TestCase):
    def setUp(self):
        self.house = HoldingTest().full()
        self.before = frozen(self.house)

    def refused(self, error, call, *things):
        with self.assertRaises(error) as caught:
            call(*things)
        self.assertIs(type(caught.exception), error)
        self.assertEqual(frozen(self.house), self.before)

    def test_making(self):
        for number in range(8):
            house = House(number, [side for side in range(8) if side != number], room=0, wait=1)
            self.assertEqual(house.waits(), [])
        House(7, [], room=9, wait=20)
        for number in NO_NUMBERS + (-1, 8, VERY_LONG):
            self.refused(BadNumber, House, number, [1])
            self.refused(BadNumber, House, number, None)
        for sides in NO_SIDES + ([0], [1, 0], [1, 1]):
            self.refused(BadSides, House, 0, sides)
        self.refused(BadSides, House, 5, [5])

    def test_making_room_and_wait(self):
        for room in NO_ROOMS:
            with self.assertRaises(BadNumber):
                House(0, [1], room=room)
            with self.assertRaises(BadSides):
                House(0, [0], room=room)
        for wait in NO_PATIENCE:
            with self.assertRaises(BadNumber):
                House(0, [1], wait=wait)
            with self.assertRaises(BadSides):
                House(0, None, wait=wait)

    def test_ask(self):
        for name in NO_NAMES:
            self.refused(BadName, self.house.ask, name, 0)
            self.refused(BadName, self.house.ask, name, None)
        for now in NO_TICKS:
            for name in (A, B, C, D):
                self.refused(BadNumber, self.house.ask, name, now)

    def test_come(self):
        for side in NO_NUMBERS + (-1, 0, 4, 7, 8, VERY_LONG):
            self.refused(NoWay, self.house.come, side, ("ask", A), 0)
            self.refused(NoWay, self.house.come, side, None, None)
        for letter in NO_LETTERS:
            self.refused(BadLetter, self.house.come, 3, letter, 0)
            self.refused(BadLetter, self.house.come, 3, letter, -1)
        for now in NO_TICKS:
            for letter in (("ask", A), ("ask", D), ("ask", B), ("no", A), ("thing", A, 5, 9), ("no", C)):
                self.refused(BadNumber, self.house.come, 3, letter, now)
            self.refused(NoWay, self.house.come, 5, ("ask", A), now)

    def test_tick(self):
        for now in NO_TICKS:
            self.refused(BadNumber, self.house.tick, now)

    def test_own(self):
        for name in NO_NAMES:
            self.refused(BadName, self.house.own, name, 1, 1)
            self.refused(BadName, self.house.own, name, -1, 100)
        for value in NO_VALUES:
            self.refused(BadNumber, self.house.own, A, value, 1)
            self.refused(BadNumber, self.house.own, D, value, 100)
        for life in NO_LIVES:
            self.refused(BadNumber, self.house.own, D, 1, life)

    def test_disown(self):
        for name in NO_NAMES + (A, B, C):
            self.refused(BadName, self.house.disown, name)

    def test_teach_and_forget(self):
        for beginning in NO_BEGINNINGS:
            self.refused(BadName, self.house.teach, beginning, [1])
            self.refused(BadName, self.house.teach, beginning, None)
            self.refused(BadName, self.house.forget, beginning)
        for sides in NO_SIDES:
            self.refused(BadSides, self.house.teach, (), sides)
        for beginning in (A, B, D):
            self.refused(BadName, self.house.forget, beginning)

    def test_end(self):
        for asker in NO_NUMBERS + (-1, 2, VERY_LONG):
            self.refused(BadNumber, self.house.end, asker)


class AsThePlainOneTest(unittest.TestCase):
    """Many deeds by chance: the house does as the one that is told once more in plain lists."""

    NAMES = (A, C, ("a", "b"), B, ("b", "a", "a"))

    def deed(self, chance, now):
        name = chance.choice(self.NAMES)
        side = chance.choice((1, 2, 4, 5))
        kind = chance.randrange(22)
        if kind < 4:
            return ("ask", name, now)
        if kind < 8:
            return ("come", side, ("ask", name), now)
        if kind < 12:
            return ("come", side, ("no", name), now)
        if kind < 16:
            return ("come", side, ("thing", name, chance.randrange(1000), max(0, now + chance.randrange(-2, 6))), now)
        if kind < 18:
            return ("tick", now)
        if kind == 18:
            return ("own", name, chance.randrange(1000), chance.randrange(3))
        if kind == 19:
            return ("disown", name)
        beginning = name[:chance.randrange(len(name) + 1)]
        if kind == 20:
            return ("forget", beginning)
        return ("teach", beginning, chance.sample(range(8), chance.randrange(7)))

    def done(self, house, deed):
        try:
            return getattr(house, deed[0])(*deed[1:])
        except WantError as error:
            return type(error)

    def both(self, chance, room, wait, falling):
        house, plain = House(0, [1, 2, 4, 5], room=room, wait=wait), PlainHouse([1, 2, 4, 5], room, wait)
        for one in (house, plain):
            one.teach((), [5, 1, 2, 3])
        now = 0
        for number in range(150):
            now += chance.choice((0, 0, 0, 1, 2))
            if falling and chance.randrange(6) == 0:
                now = chance.randrange(10)
            deed = self.deed(chance, now)
            self.assertEqual(self.done(house, deed), self.done(plain, deed))
            self.assertEqual((house.waits(), house.keeps(), house.owns(), house.table()), plain.told())
            self.assertEqual([house.end(asker) for asker in range(len(plain.ends))], plain.ends)
            self.assertRaises(BadNumber, house.end, len(plain.ends))

    def test_as_the_plain_one(self):
        chance = random.Random(42)
        for number in range(120):
            self.both(chance, chance.choice((0, 1, 2, 4, 9)), chance.choice((1, 2, 3, 6, 20)), number % 3 == 0)


if __name__ == "__main__":
    unittest.main()
