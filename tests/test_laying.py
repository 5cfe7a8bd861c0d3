import itertools
import random
import unittest

from namewants.errors import BadName, BadNumber, BadSides
from namewants.laying import laid, taught
from namewants.nets import Net
from namewants.tables import Table
from states import frozen
from wrongs import NO_BEGINNINGS, NO_HOMES, NO_SIZES, NO_WAYS

A, B, C = ("a",), ("b",), ("a", "c")
ROW = [(0, 1), (1, 2), (2, 3)]
RING = [(0, 1), (1, 2), (2, 3), (3, 4), (4, 5), (0, 5)]


def rows_of(tables):
    return [table.rows() for table in tables]


def sides_of(tables, beginning=A):
    """The sides that each table has for one beginning alone."""
    return [dict(table.rows())[beginning] for table in tables]


def plain_away(houses, ways, homes):
    """Each house's count of ways to the nearest home, by widening it again and again; None without one."""
    away = {house: 0 for house in homes}
    for step in range(houses):
        for one, other in ways + [way[::-1] for way in ways]:
            if one in away:
                away[other] = min(away.get(other, houses), away[one] + 1)
    return [away.get(house) for house in range(houses)]


class LaidTest(unittest.TestCase):
    def test_row(self):
        tables = laid(4, ROW, [(3, A)])
        self.assertTrue(all(isinstance(table, Table) for table in tables))
        self.assertIsInstance(tables, list)
        self.assertEqual(rows_of(tables), [[(A, [1])], [(A, [2])], [(A, [3])], [(A, [])]])

    def test_ring(self):
        self.assertEqual(sides_of(laid(6, RING, [(0, A)])), [[], [0], [1], [2, 4], [5], [0]])

    def test_star(self):
        ways = [(0, 1), (0, 2), (0, 3)]
        self.assertEqual(sides_of(laid(4, ways, [(0, A)])), [[], [0], [0], [0]])
        self.assertEqual(sides_of(laid(4, ways, [(2, A)])), [[2], [0], [], [0]])

    def test_sides_rise(self):
        ways = [(4, 5), (3, 5), (0, 5), (3, 4), (2, 4), (2, 3), (0, 2), (1, 2)]
        self.assertEqual(sides_of(laid(6, ways, [(1, A)])), [[2], [], [1], [2], [2], [0, 3, 4]])

    def test_several_homes_of_one_beginning(self):
        self.assertEqual(sides_of(laid(6, RING, [(0, A), (3, A)])), [[], [0], [3], [], [3], [0]])
        self.assertEqual(sides_of(laid(6, RING, [(4, A), (0, A)])), [[], [0], [1, 3], [4], [], [0, 4]])

    def test_home_beside_a_home(self):
        self.assertEqual(sides_of(laid(4, ROW, [(1, A), (2, A)])), [[1], [], [], [2]])

    def test_all_homes(self):
        self.assertEqual(sides_of(laid(3, [(0, 1), (1, 2)], [(1, A), (0, A), (2, A)])), [[], [], []])

    def test_parts_that_do_not_hang_together(self):
        ways = [(0, 1), (2, 3), (3, 4)]
        self.assertEqual(sides_of(laid(6, ways, [(2, A)])), [[], [], [], [2], [3], []])
        self.assertEqual(sides_of(laid(6, ways, [(2, A), (0, A)])), [[], [0], [], [2], [3], []])
        self.assertEqual(sides_of(laid(6, ways, [(5, A)])), [[]] * 6)

    def test_several_beginnings(self):
        homes = [(2, B), (0, ()), (2, A), (0, C)]
        self.assertEqual(rows_of(laid(3, [(0, 1), (1, 2)], homes)), [
            [((), []), (A, [1]), (C, []), (B, [1])],
            [((), [0]), (A, [2]), (C, [0]), (B, [2])],
            [((), [1]), (A, []), (C, [1]), (B, [])]])

    def test_one_home_twice(self):
        self.assertEqual(rows_of(laid(4, ROW, [(3, A), (3, A)])), rows_of(laid(4, ROW, [(3, A)])))

    def test_no_homes_and_no_ways(self):
        self.assertEqual(rows_of(laid(3, [(0, 1)], [])), [[], [], []])
        self.assertEqual(rows_of(laid(8, [], [(7, A)])), [[(A, [])]] * 8)
        self.assertEqual(rows_of(laid(2, [(0, 1)], [(1, ())])), [[((), [1])], [((), [])]])

    def test_as_the_counts_tell(self):
        chance = random.Random(6)
        for number in range(150):
            houses = chance.randrange(2, 9)
            ways = [way for way in itertools.combinations(range(houses), 2) if not chance.randrange(3)]
            chance.shuffle(ways)
            homes = [(house, beginning) for house in range(houses) for beginning in ((), A, C)
                     if not chance.randrange(4)]
            chance.shuffle(homes)
            tables = laid(houses, ways, homes)
            self.assertEqual(len(tables), houses)
            for beginning in {home[1] for home in homes}:
                away = plain_away(houses, ways, [house for house, other in homes if other == beginning])
                for house, sides in enumerate(sides_of(tables, beginning)):
                    self.assertEqual(sides, [side for side in range(houses)
                                             if (min(house, side), max(house, side)) in ways
                                             and away[house] is not None and away[side] < away[house]])
            for table in tables:
                self.assertEqual(len(table), len({home[1] for home in homes}))

    def test_handed_in_is_neither_changed_nor_kept(self):
        ways, homes = [(1, 2), (0, 1)], [(2, B), (0, A)]
        tables = laid(3, ways, homes)
        self.assertEqual((ways, homes), ([(1, 2), (0, 1)], [(2, B), (0, A)]))
        before = rows_of(tables)
        ways.clear()
        homes.clear()
        self.assertEqual(rows_of(tables), before)

    def test_tables_are_new(self):
        one, other = laid(3, [(0, 1)], [(0, A)]), laid(3, [(0, 1)], [(0, A)])
        one[2].put((), [1])
        one[1].drop(A)
        self.assertEqual(rows_of(other), [[(A, [])], [(A, [0])], [(A, [])]])
        self.assertEqual(one[0].rows(), [(A, [])])


class TaughtTest(unittest.TestCase):
    def tables(self, net):
        return [net.at_house(house)[3] for house in range(net.size())]

    def test_as_laid(self):
        homes = [(3, A), (0, ()), (1, C)]
        net = Net(4, ROW)
        self.assertIsNone(taught(net, homes))
        self.assertEqual(self.tables(net), rows_of(laid(4, ROW, homes)))

    def test_besides_what_they_had(self):
        net = Net(3, [(0, 1), (1, 2)])
        net.teach(0, B, [1])
        net.teach(1, A, [2, 0])
        net.teach(1, C, [])
        taught(net, [(0, A)])
        self.assertEqual(self.tables(net), [[(A, []), (B, [1])], [(A, [0]), (C, [])], [(A, [1])]])

    def test_again_with_other_homes(self):
        net = Net(3, [(0, 1), (1, 2)])
        taught(net, [(0, A), (2, B)])
        taught(net, [(2, A)])
        self.assertEqual(self.tables(net), [[(A, [1]), (B, [1])], [(A, [2]), (B, [2])], [(A, []), (B, [])]])

    def test_gone_houses_are_left_out_but_counted(self):
        net = Net(6, RING)
        net.leave(1)
        net.leave(0)
        taught(net, [(0, A)])
        self.assertEqual(self.tables(net), [[], [], [(A, [1])], [(A, [2, 4])], [(A, [5])], [(A, [0])]])

    def test_cut_ways_are_counted(self):
        net = Net(4, ROW)
        net.cut(1, 2)
        taught(net, [(3, A)])
        self.assertEqual(self.tables(net), rows_of(laid(4, ROW, [(3, A)])))

    def test_nothing_else_changes(self):
        net = Net(4, ROW)
        net.own(3, A, 5, 5)
        net.teach(0, B, [1])
        net.ask(0, B)
        net.tick()
        taught(net, [(3, A)])
        self.assertEqual(net.on_way(0, 1), [("ask", B)])
        self.assertEqual(net.at_house(0)[0], [(B, 0, [("own", 0)], [1], [])])
        self.assertEqual(net.at_house(3)[2], [(A, 5, 5)])
        self.assertEqual((net.now(), net.alive()), (1, [0, 1, 2, 3]))

    def test_no_homes(self):
        net = Net(4, ROW)
        before = frozen(net)
        taught(net, [])
        self.assertEqual(frozen(net), before)

    def test_homes_are_neither_changed_nor_kept(self):
        homes = [(2, B), (0, A), (2, B)]
        net = Net(3, [(0, 1), (1, 2)])
        taught(net, homes)
        self.assertEqual(homes, [(2, B), (0, A), (2, B)])
        before = frozen(net)
        homes.clear()
        self.assertEqual(frozen(net), before)


class RefusalsTest(unittest.TestCase):
    def test_laid(self):
        for houses in NO_SIZES:
            self.assertRaises(BadNumber, laid, houses, [], [])
            self.assertRaises(BadNumber, laid, houses, None, None)
        for ways in NO_WAYS:
            self.assertRaises(BadSides, laid, 3, ways, [(0, A)])
            self.assertRaises(BadSides, laid, 3, ways, None)
        for homes in NO_HOMES:
            self.assertRaises(BadName, laid, 3, [(0, 1)], homes)
        self.assertRaises(BadName, laid, 8, [], [(8, A)])

    def test_taught(self):
        net = Net(3, [(0, 1)])
        taught(net, [(0, B)])
        net.leave(2)
        before = frozen(net)
        for homes in NO_HOMES:
            self.assertRaises(BadName, taught, net, homes)
            self.assertEqual(frozen(net), before)

    def test_one_bad_home_behind_good_ones(self):
        net = Net(3, [(0, 1)])
        before = frozen(net)
        for beginning in NO_BEGINNINGS:
            self.assertRaises(BadName, taught, net, [(0, A), (1, B), (2, beginning)])
            self.assertEqual(frozen(net), before)


if __name__ == "__main__":
    unittest.main()
