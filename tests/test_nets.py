import itertools
import random
import unittest

from namewants.errors import BadName, BadNumber, BadSides, Gone, NoHouse, NoLetter, NoWay, WantError
from namewants.nets import Net
from plain import PlainNet
from states import frozen
from wrongs import (NO_BEGINNINGS, NO_HOUSES, NO_LIVES, NO_NAMES, NO_NUMBERS, NO_PATIENCE, NO_ROOMS, NO_SIDES,
                    NO_SIZES, NO_VALUES, NO_WAYS, VERY_LONG)

A, B, C = ("a",), ("b",), ("a", "c")
ASK, NO = ("ask", A), ("no", A)


def row_net(**more):
    """Houses 0 - 1 - 2: all ask toward 2, which owns A."""
    net = Net(3, [(0, 1), (1, 2)], **more)
    net.teach(0, (), [1])
    net.teach(1, (), [2])
    net.own(2, A, 5, 3)
    return net


class ShapeTest(unittest.TestCase):
    def test_new_one(self):
        net = Net(4, [(1, 3), (0, 2), (0, 1)])
        self.assertEqual(net.size(), 4)
        self.assertEqual(net.ways(), [(0, 1), (0, 2), (1, 3)])
        self.assertEqual(net.alive(), [0, 1, 2, 3])
        self.assertEqual(net.now(), 0)
        self.assertEqual(len(net), 0)
        for house in range(4):
            self.assertEqual(net.at_house(house), ([], [], [], []))

    def test_sizes(self):
        for houses in range(2, 9):
            ways = list(itertools.combinations(range(houses), 2))
            for many in (0, 1, len(ways)):
                net = Net(houses, ways[:many])
                self.assertEqual((net.size(), net.ways()), (houses, ways[:many]))
                self.assertEqual(net.alive(), list(range(houses)))

    def test_cut_and_gone_are_counted(self):
        net = row_net()
        net.cut(0, 1)
        net.leave(2)
        self.assertEqual(net.ways(), [(0, 1), (1, 2)])
        self.assertEqual(net.size(), 3)
        self.assertEqual(net.alive(), [0, 1])

    def test_room_and_wait(self):
        net = row_net(room=1, wait=2)
        for name in (A, B):
            net.own(2, name, 5, 9)
            net.ask(0, name)
            net.settle()
        for house in (0, 1):
            self.assertEqual(net.at_house(house)[1], [(B, 5, 9)])
        net.ask(0, C)
        net.lose(0, 1)
        net.tick()
        self.assertEqual(net.end(0, 2), ())
        net.tick()
        self.assertEqual(net.end(0, 2), (None,))


class LettersTest(unittest.TestCase):
    def test_there_and_back(self):
        net = row_net()
        self.assertEqual(net.ask(0, A), 0)
        self.assertEqual(net.on_way(0, 1), [ASK])
        self.assertEqual(net.at_house(0)[0], [(A, 0, [("own", 0)], [1], [])])
        self.assertIs(net.come(0, 1), True)
        self.assertEqual([net.on_way(0, 1), net.on_way(1, 0), net.on_way(1, 2)], [[], [], [ASK]])
        self.assertIs(net.come(1, 2), True)
        self.assertEqual(net.on_way(2, 1), [("thing", A, 5, 3)])
        self.assertIs(net.come(2, 1), True)
        self.assertEqual(net.at_house(1)[1], [(A, 5, 3)])
        self.assertEqual(net.end(0, 0), ())
        self.assertIs(net.come(1, 0), True)
        self.assertEqual(net.end(0, 0), (5,))
        self.assertEqual(len(net), 0)

    def test_numbers_of_askers(self):
        net = row_net()
        self.assertEqual([net.ask(0, A), net.ask(0, B), net.ask(1, A), net.ask(0, A)], [0, 1, 0, 2])

    def test_heard_though_it_is_nothing(self):
        net = row_net(wait=1)
        net.ask(0, A)
        net.come(0, 1)
        net.come(1, 2)
        net.tick()
        self.assertEqual(net.on_way(1, 0), [NO])
        self.assertIs(net.come(2, 1), True)
        self.assertEqual(net.at_house(1), ([], [], [], [((), [2])]))

    def test_in_the_order_in_which_they_were_put(self):
        net = row_net()
        for name in (B, A, C):
            net.ask(0, name)
        self.assertEqual(net.on_way(0, 1), [("ask", B), ("ask", A), ("ask", C)])
        net.come(0, 1)
        self.assertEqual(net.on_way(0, 1), [("ask", A), ("ask", C)])
        self.assertEqual(net.on_way(1, 2), [("ask", B)])
        self.assertIsNone(net.lose(0, 1))
        self.assertEqual(net.on_way(0, 1), [("ask", C)])
        self.assertEqual(net.on_way(1, 2), [("ask", B)])

    def test_ways_there_and_back_are_two(self):
        net = row_net()
        net.teach(1, B, [0])
        net.ask(0, A)
        net.ask(1, B)
        self.assertEqual([net.on_way(0, 1), net.on_way(1, 0)], [[ASK], [("ask", B)]])
        net.lose(1, 0)
        self.assertEqual([net.on_way(0, 1), net.on_way(1, 0)], [[ASK], []])

    def test_how_many(self):
        net = row_net()
        net.teach(1, (), [2, 0])
        for many, house, name in ((1, 0, A), (2, 0, B), (4, 1, C), (4, 2, A)):
            net.ask(house, name)
            self.assertEqual(len(net), many)
        net.come(1, 0)
        self.assertEqual(len(net), 4)
        net.come(0, 1)
        self.assertEqual(len(net), 4)
        net.lose(0, 1)
        self.assertEqual(len(net), 3)

    def test_ends_alike_in_any_order_of_ways(self):
        for order in itertools.permutations(((0, 1), (2, 1), (3, 1))):
            net = Net(5, [(0, 1), (1, 2), (1, 3), (1, 4)])
            for house in (0, 2, 3):
                net.teach(house, (), [1])
                net.ask(house, A)
            net.teach(1, (), [4])
            net.own(4, A, 5, 0)
            for pair in order:
                self.assertTrue(net.come(*pair))
            self.assertEqual(net.at_house(1)[0], [(A, 0, [pair[0] for pair in order], [4], [])])
            self.assertEqual(net.settle(), 5)
            self.assertEqual([net.end(house, 0) for house in (0, 2, 3)], [(5,)] * 3)


class LostTest(unittest.TestCase):
    def test_lost_letter(self):
        net = row_net()
        net.ask(0, A)
        before = frozen(net.houses)
        self.assertIsNone(net.lose(0, 1))
        self.assertEqual(len(net), 0)
        self.assertEqual(frozen(net.houses), before)
        for number in range(6):
            self.assertEqual(net.end(0, 0), ())
            net.tick()
        self.assertEqual(net.end(0, 0), (None,))

    def test_over_a_way_that_is_cut(self):
        for one, other in ((0, 1), (1, 0)):
            net = row_net()
            net.ask(0, A)
            self.assertIsNone(net.cut(one, other))
            before = frozen(net.houses)
            self.assertEqual(net.on_way(0, 1), [ASK])
            self.assertIs(net.come(0, 1), False)
            self.assertEqual(len(net), 0)
            self.assertEqual(frozen(net.houses), before)

    def test_back_over_a_way_that_is_cut(self):
        net = row_net()
        net.ask(0, A)
        net.come(0, 1)
        net.come(1, 2)
        net.come(2, 1)
        net.cut(0, 1)
        self.assertIs(net.come(1, 0), False)
        self.assertEqual(net.end(0, 0), ())

    def test_other_ways_are_not_cut(self):
        net = row_net()
        net.cut(0, 1)
        net.ask(1, A)
        self.assertEqual(net.settle(), 2)
        self.assertEqual(net.end(1, 0), (5,))

    def test_mended_ahead_of_the_letter(self):
        for one, other in ((0, 1), (1, 0)):
            net = row_net()
            net.cut(0, 1)
            net.ask(0, A)
            self.assertIsNone(net.mend(one, other))
            self.assertIs(net.come(0, 1), True)

    def test_cut_and_mended_again_and_again(self):
        net = row_net()
        net.mend(0, 1)
        net.cut(0, 1)
        net.cut(1, 0)
        net.mend(0, 1)
        net.ask(0, A)
        self.assertEqual(net.settle(), 4)
        self.assertEqual(net.end(0, 0), (5,))
        net.cut(1, 0)
        net.ask(0, B)
        self.assertIs(net.come(0, 1), False)

    def test_cut_way_can_be_taught(self):
        net = row_net()
        net.cut(0, 1)
        net.teach(0, A, [1])
        self.assertEqual(net.at_house(0)[3], [((), [1]), (A, [1])])


class GoneTest(unittest.TestCase):
    def test_letters_to_it_are_lost(self):
        net = row_net()
        net.ask(0, A)
        before = frozen(net.houses)
        self.assertIsNone(net.leave(1))
        self.assertEqual(net.alive(), [0, 2])
        self.assertIs(net.come(0, 1), False)
        self.assertEqual(frozen(net.houses), before)
        self.assertEqual(len(net), 0)

    def test_letters_from_it_still_come(self):
        net = row_net()
        net.ask(0, A)
        net.come(0, 1)
        net.leave(0)
        net.come(1, 2)
        net.leave(2)
        self.assertIs(net.come(2, 1), True)
        self.assertEqual(net.at_house(1)[1], [(A, 5, 3)])
        self.assertEqual(net.on_way(1, 0), [("thing", A, 5, 3)])
        self.assertIs(net.come(1, 0), False)

    def test_it_does_not_tick(self):
        net = row_net(wait=1)
        net.ask(0, A)
        net.come(0, 1)
        net.leave(1)
        net.leave(0)
        for number in range(9):
            net.tick()
        self.assertEqual(net.end(0, 0), ())
        self.assertEqual(net.on_way(1, 0), [])
        self.assertEqual(net.at_house(0)[0], [(A, 0, [("own", 0)], [1], [])])
        self.assertEqual(net.at_house(1)[0], [(A, 0, [0], [2], [])])

    def test_it_is_still_told_of(self):
        net = row_net()
        net.leave(2)
        self.assertEqual(net.at_house(2), ([], [], [(A, 5, 3)], []))
        self.assertEqual(net.on_way(2, 1), [])
        self.assertIsNone(net.cut(1, 2))
        self.assertIsNone(net.mend(1, 2))
        self.assertEqual(net.ways(), [(0, 1), (1, 2)])

    def test_all_gone(self):
        net = row_net()
        for house in (1, 0, 2):
            net.leave(house)
        self.assertEqual(net.alive(), [])
        net.tick()
        self.assertEqual((net.now(), net.settle()), (1, 0))

    def test_refused_and_tells_its_house(self):
        net = row_net()
        net.ask(1, A)
        net.leave(1)
        before = frozen(net)
        calls = ((net.ask, 1, A), (net.own, 1, A, 1, 1), (net.disown, 1, A), (net.teach, 1, (), [0]),
                 (net.forget, 1, ()), (net.leave, 1), (net.ask, 1, ()), (net.own, 1, None, -1, -1),
                 (net.disown, 1, None), (net.teach, 1, None, [1]), (net.teach, 1, (), [1]), (net.forget, 1, None))
        for call, *things in calls:
            with self.assertRaises(Gone) as caught:
                call(*things)
            self.assertEqual(caught.exception.house, 1)
            self.assertEqual(frozen(net), before)
        self.assertEqual(net.end(1, 0), ())


class SettleTest(unittest.TestCase):
    def test_nothing(self):
        self.assertEqual(row_net().settle(), 0)

    def test_counts_heard_and_lost(self):
        net = row_net()
        net.ask(0, A)
        self.assertEqual(net.settle(), 4)
        self.assertEqual(net.end(0, 0), (5,))
        net.ask(0, B)
        net.cut(0, 1)
        net.ask(1, B)
        self.assertEqual(net.settle(), 3)
        self.assertEqual(len(net), 0)
        self.assertEqual([net.end(0, 1), net.end(1, 0)], [(), (None,)])

    def test_by_the_least_pair(self):
        """Two owners: which value is got hangs on the order in which letters come."""
        net = Net(4, [(0, 1), (0, 2), (1, 3), (2, 3)])
        net.teach(3, (), [2, 1])
        net.teach(1, (), [0])
        net.own(0, A, 10, 5)
        net.own(2, A, 12, 5)
        net.ask(3, A)
        # 3-1 ahead of 3-2; then 1-0 and 0-1 ahead of it; then 1-3.
        self.assertEqual(net.settle(), 6)
        self.assertEqual(net.end(3, 0), (10,))

    def test_least_sender_then_least_receiver(self):
        net = Net(3, [(0, 1), (0, 2), (1, 2)])
        net.teach(2, (), [1, 0])
        net.teach(0, (), [1])
        net.own(1, A, 11, 5)
        net.ask(2, A)
        # 2-0 ahead of 2-1: 0 asks 1, which tells it, and then 2 hears it from 0.
        net.settle()
        self.assertEqual(net.at_house(0)[1], [(A, 11, 5)])
        self.assertEqual(net.end(2, 0), (11,))

    def test_as_by_hand(self):
        chance = random.Random(51)
        for number in range(60):
            net, other = (random_net(random.Random(number)) for copy in range(2))
            for house in (0, 1, 1, 0):
                name = chance.choice((A, B, C))
                self.assertEqual(net.ask(house, name), other.ask(house, name))
            many = 0
            while len(other):
                pairs = [pair for way in other.ways() for pair in (way, way[::-1]) if other.on_way(*pair)]
                other.come(*min(pairs))
                many += 1
            self.assertEqual(net.settle(), many)
            self.assertEqual(frozen(net), frozen(other))


class TickTest(unittest.TestCase):
    def test_now(self):
        net = row_net()
        for now in range(1, 5):
            self.assertIsNone(net.tick())
            self.assertEqual(net.now(), now)

    def test_all_tick_by_the_later_now(self):
        net = row_net(wait=2)
        net.ask(0, A)
        net.settle()
        for now in (1, 2):
            net.tick()
            self.assertEqual(net.at_house(0)[1], [(A, 5, 3)])
        net.tick()
        self.assertEqual([net.at_house(house)[1] for house in (0, 1)], [[], []])

    def test_rising(self):
        net = Net(3, [(0, 1), (0, 2), (1, 2)], wait=1)
        net.teach(1, (), [0])
        net.teach(2, (), [0])
        net.teach(0, (), [1, 2])
        for name in (A, B):
            net.ask(2, name)
            net.come(2, 0)
            net.ask(1, name)
            net.come(1, 0)
        for pair in ((0, 1), (0, 1), (0, 2), (0, 2)):
            net.come(*pair)
        net.tick()
        self.assertEqual(net.on_way(0, 1), [NO, ("no", B)])
        self.assertEqual(net.on_way(0, 2), [NO, ("no", B)])
        self.assertEqual(net.on_way(1, 0), [NO, ("no", B)])
        self.assertEqual([net.end(1, 0), net.end(2, 1)], [(None,), (None,)])

    def test_letters_stay_on_their_ways(self):
        net = row_net()
        net.ask(0, A)
        net.tick()
        self.assertEqual(net.on_way(0, 1), [ASK])
        self.assertEqual(net.settle(), 4)
        self.assertEqual(net.at_house(0)[1], [(A, 5, 4)])

    def test_too_old_on_its_way(self):
        net = row_net()
        net.own(2, A, 5, 1)
        net.ask(1, A)
        net.come(1, 2)
        net.tick()
        net.tick()
        self.assertEqual(net.settle(), 1)
        self.assertEqual(net.end(1, 0), (None,))


class LeadsTest(unittest.TestCase):
    def net(self):
        """A ring of five, all asking on toward the greater, 3 owning A."""
        net = Net(5, [(0, 1), (1, 2), (2, 3), (3, 4), (0, 4)])
        for house in range(5):
            net.teach(house, (), [(house + 1) % 5])
        net.own(3, A, 5, 3)
        return net

    def told(self, net, name=A):
        return [net.leads(house, name) for house in range(5)]

    def test_by_the_tables(self):
        self.assertEqual(self.told(self.net()), [True] * 5)
        self.assertEqual(self.told(self.net(), B), [False] * 5)
        self.assertEqual(self.told(self.net(), C), [False] * 5)

    def test_way_without_a_row(self):
        net = self.net()
        net.forget(1, ())
        self.assertEqual(self.told(net), [False, False, True, True, False])
        net.teach(1, A, [2])
        self.assertEqual(self.told(net), [True] * 5)
        net.teach(1, C, [])
        self.assertEqual(self.told(net), [True] * 5)
        self.assertIs(net.leads(3, A), True)

    def test_any_of_several_sides(self):
        net = self.net()
        net.teach(0, A, [1, 4])
        net.teach(4, A, [0, 3])
        net.leave(2)
        self.assertEqual(self.told(net), [True, False, False, True, True])

    def test_gone_houses_are_left_out(self):
        net = self.net()
        net.leave(1)
        self.assertEqual(self.told(net), [False, False, True, True, False])
        net.leave(3)
        self.assertEqual(self.told(net), [False] * 5)

    def test_cut_ways_are_left_out(self):
        net = self.net()
        net.cut(4, 0)
        self.assertEqual(self.told(net), [True, True, True, True, False])
        net.cut(1, 2)
        self.assertEqual(self.told(net), [False, False, True, True, False])
        net.mend(0, 4)
        net.mend(2, 1)
        self.assertEqual(self.told(net), [True] * 5)

    def test_kept_ones_own_nothing(self):
        net = self.net()
        net.ask(1, A)
        net.settle()
        net.disown(3, A)
        self.assertEqual(self.told(net), [False] * 5)

    def test_changes_nothing(self):
        net = self.net()
        before = frozen(net)
        self.told(net)
        self.assertEqual(frozen(net), before)


class TellingTest(unittest.TestCase):
    def full(self):
        net = row_net()
        net.ask(0, A)
        net.settle()
        net.ask(0, B)
        net.come(0, 1)
        net.ask(1, C)
        net.cut(0, 1)
        return net

    def test_at_house(self):
        net = self.full()
        self.assertEqual(net.at_house(0), ([(B, 0, [("own", 1)], [1], [])], [(A, 5, 3)], [], [((), [1])]))
        self.assertEqual(net.at_house(1), ([(B, 0, [0], [2], []), (C, 0, [("own", 0)], [2], [])], [(A, 5, 3)], [],
                                           [((), [2])]))
        self.assertEqual(net.at_house(2), ([], [], [(A, 5, 3)], []))
        self.assertIsInstance(net.at_house(0), tuple)

    def test_taught_and_owned(self):
        net = row_net()
        for told in (net.own(0, B, 3, 4), net.teach(1, B, [2, 0]), net.teach(1, C, [])):
            self.assertIsNone(told)
        self.assertEqual(net.at_house(0)[2], [(B, 3, 4)])
        self.assertEqual(net.at_house(1)[3], [((), [2]), (C, []), (B, [2, 0])])
        for told in (net.disown(0, B), net.forget(1, B)):
            self.assertIsNone(told)
        self.assertEqual(net.at_house(0)[2], [])
        self.assertEqual(net.at_house(1)[3], [((), [2]), (C, [])])

    def test_lists_that_are_told_are_new(self):
        net = self.full()
        before = frozen(net)
        waits, keeps, owns, table = net.at_house(1)
        for row in waits:
            for part in row[2:]:
                part.append(7)
        table[0][1].append(7)
        for told in (waits, keeps, owns, table, net.ways(), net.alive(), net.on_way(1, 2)):
            self.assertIsInstance(told, list)
            told.append(None)
            told.clear()
        self.assertEqual(frozen(net), before)

    def test_told_twice_alike(self):
        net = self.full()
        before = frozen(net)
        for ask in (net.ways, net.alive, net.now, net.size, net.__len__, lambda: net.on_way(1, 2),
                    lambda: net.at_house(1), lambda: net.end(0, 0), lambda: net.leads(0, A)):
            self.assertEqual(ask(), ask())
        self.assertEqual(frozen(net), before)

    def test_lists_that_were_handed_in(self):
        ways, sides = [(1, 2), (0, 1)], [2, 0]
        net = Net(3, ways)
        net.teach(1, (), sides)
        self.assertEqual((ways, sides), ([(1, 2), (0, 1)], [2, 0]))
        before = frozen(net)
        ways.append((0, 2))
        sides.clear()
        self.assertEqual(frozen(net), before)
        self.assertEqual(net.ways(), [(0, 1), (1, 2)])

    def test_nets_do_not_share(self):
        one, other = row_net(), row_net()
        one.ask(0, A)
        one.cut(0, 1)
        one.leave(2)
        one.tick()
        self.assertEqual(frozen(other), frozen(row_net()))


class RefusalsTest(unittest.TestCase):
    def setUp(self):
        self.net = row_net()
        self.net.ask(0, A)
        self.before = frozen(self.net)

    def refused(self, error, call, *things):
        with self.assertRaises(error) as caught:
            call(*things)
        self.assertIs(type(caught.exception), error)
        self.assertEqual(frozen(self.net), self.before)

    def test_making(self):
        for houses in NO_SIZES:
            self.refused(BadNumber, Net, houses, [])
            self.refused(BadNumber, Net, houses, None)
        for ways in NO_WAYS:
            self.refused(BadSides, Net, 3, ways)
        self.refused(BadSides, Net, 8, [(7, 8)])
        self.refused(BadSides, Net, 2, [(0, 2)])

    def test_making_room_and_wait(self):
        for room in NO_ROOMS:
            with self.assertRaises(BadNumber):
                Net(2, [], room=room)
            with self.assertRaises(BadSides):
                Net(2, None, room=room)
        for wait in NO_PATIENCE:
            with self.assertRaises(BadNumber):
                Net(2, [], wait=wait)
            with self.assertRaises(BadSides):
                Net(2, [(1, 0)], wait=wait)
        for room, wait in ((0, 1), (9, 20)):
            self.assertEqual(Net(2, [], room=room, wait=wait).size(), 2)

    def test_no_house(self):
        net = self.net
        for house in NO_HOUSES:
            for call, *things in ((net.ask, A), (net.ask, None), (net.end, 0), (net.end, None), (net.own, A, 1, 1),
                                  (net.own, None, None, None), (net.disown, A), (net.disown, None),
                                  (net.teach, (), [1]), (net.teach, None, None), (net.forget, ()),
                                  (net.forget, None), (net.leave,), (net.at_house,), (net.leads, A),
                                  (net.leads, None)):
                self.refused(NoHouse, call, house, *things)

    def test_no_house_of_two(self):
        net = self.net
        for call in (net.come, net.lose, net.cut, net.mend, net.on_way):
            for house in NO_HOUSES:
                self.refused(NoHouse, call, house, 0)
                self.refused(NoHouse, call, 0, house)
                self.refused(NoHouse, call, house, house)

    def test_no_way(self):
        net = self.net
        for call in (net.come, net.lose, net.cut, net.mend, net.on_way):
            for one, other in ((0, 2), (2, 0), (0, 0), (1, 1), (2, 2)):
                self.refused(NoWay, call, one, other)

    def test_no_letter(self):
        for call in (self.net.come, self.net.lose):
            for one, other in ((1, 0), (1, 2), (2, 1)):
                self.refused(NoLetter, call, one, other)
        self.net.cut(1, 2)
        self.net.leave(2)
        self.before = frozen(self.net)
        for call in (self.net.come, self.net.lose):
            self.refused(NoLetter, call, 1, 2)

    def test_as_of_a_house(self):
        net = self.net
        for name in NO_NAMES:
            self.refused(BadName, net.ask, 0, name)
            self.refused(BadName, net.own, 0, name, -1, -1)
            self.refused(BadName, net.disown, 0, name)
            self.refused(BadName, net.leads, 0, name)
        for value in NO_VALUES:
            self.refused(BadNumber, net.own, 0, A, value, 100)
        for life in NO_LIVES:
            self.refused(BadNumber, net.own, 2, A, 1, life)
        for name in (A, B):
            self.refused(BadName, net.disown, 0, name)
        for asker in NO_NUMBERS + (-1, 1, VERY_LONG):
            self.refused(BadNumber, net.end, 0, asker)
        self.refused(BadNumber, net.end, 1, 0)

    def test_teach_and_forget(self):
        net = self.net
        for beginning in NO_BEGINNINGS:
            self.refused(BadName, net.teach, 0, beginning, [2])
            self.refused(BadName, net.teach, 0, beginning, None)
            self.refused(BadName, net.forget, 0, beginning)
        self.refused(BadName, net.forget, 0, A)
        for sides in NO_SIDES:
            self.refused(BadSides, net.teach, 0, (), sides)
        for house, sides in ((0, [0]), (0, [2]), (0, [1, 2]), (0, [7]), (1, [0, 2, 1]), (2, [0])):
            self.refused(BadSides, net.teach, house, (), sides)
            self.refused(BadName, net.teach, house, None, sides)


def random_net(chance):
    """A net of some shape, with tables, things, cut ways and a gone house by chance; 0 and 1 aren't gone."""
    houses = chance.randrange(3, 7)
    ways = [way for way in itertools.combinations(range(houses), 2) if chance.randrange(3)]
    net = Net(houses, ways, room=chance.choice((0, 1, 4)), wait=chance.choice((1, 3, 6)))
    for house in range(houses):
        sides = [sum(way) - house for way in ways if house in way]
        for beginning in ((), A, C):
            if chance.randrange(3):
                net.teach(house, beginning, chance.sample(sides, chance.randrange(len(sides) + 1)))
        if not chance.randrange(4):
            net.own(house, chance.choice((A, B, C)), house, chance.randrange(4))
    if ways and chance.randrange(2):
        net.cut(*chance.choice(ways))
    if not chance.randrange(4):
        net.leave(houses - 1)
    return net


class AsThePlainOneTest(unittest.TestCase):
    """Many deeds by chance: the net does as the one that is told once more in plain lists."""

    NAMES = (A, B, C, ("a", "b"))

    def deed(self, chance, net):
        house, other = chance.randrange(net.size() + 1), chance.randrange(net.size())
        name = chance.choice(self.NAMES)
        kind = chance.randrange(40)
        if kind < 8:
            return ("ask", house, name)
        if kind < 24:
            full = [pair for way in net.ways() for pair in (way, way[::-1]) if net.on_way(*pair)]
            return ("come",) + (chance.choice(full) if full and chance.randrange(9) else (house, other))
        if kind < 27:
            return ("tick",)
        if kind < 30:
            return ("teach", house, name[:chance.randrange(3)], chance.sample(range(net.size()), chance.randrange(3)))
        if kind == 39 and not chance.randrange(4):
            return ("leave", house)
        return (("own", house, name, chance.randrange(1000), chance.randrange(4)), ("own", house, name, 1, 1),
                ("disown", house, name), ("forget", house, name[:chance.randrange(3)]), ("lose", house, other),
                ("cut", house, other), ("mend", house, other), ("mend", house, other), ("settle",), ("tick",)
                )[kind - 30]

    def done(self, net, deed):
        try:
            return getattr(net, deed[0])(*deed[1:])
        except WantError as error:
            return type(error)

    def alike(self, net, plain):
        self.assertEqual(len(net), len(plain.letters))
        for way in net.ways():
            for pair in (way, way[::-1]):
                self.assertEqual(net.on_way(*pair), [letter[2] for letter in plain.letters if letter[:2] == pair])
        for number, house in enumerate(plain.houses):
            self.assertEqual(net.at_house(number), house.told())
            self.assertEqual([net.end(number, asker) for asker in range(len(house.ends))], house.ends)
        self.assertEqual(net.now(), plain.now)
        self.assertEqual(net.alive(), [number for number in range(net.size()) if number not in plain.gone])

    def test_as_the_plain_one(self):
        chance = random.Random(52)
        refused = set()
        for number in range(60):
            houses = chance.randrange(2, 9)
            ways = [way for way in itertools.combinations(range(houses), 2) if chance.randrange(3)]
            room, wait = chance.choice((0, 1, 4)), chance.choice((1, 2, 6))
            net, plain = Net(houses, ways, room=room, wait=wait), PlainNet(houses, ways, room, wait)
            for one in (net, plain):
                for house in range(houses):
                    one.teach(house, (), sorted(sum(way) - house for way in ways if house in way))
            for step in range(120):
                deed = self.deed(chance, net)
                told = self.done(net, deed)
                self.assertEqual(told, self.done(plain, deed))
                self.alike(net, plain)
                refused.add(told if isinstance(told, type) else None)
        self.assertEqual(refused, {None, NoHouse, NoWay, NoLetter, Gone, BadName, BadSides})


if __name__ == "__main__":
    unittest.main()
