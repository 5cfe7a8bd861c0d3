"""[1], [2] and [3] over whole nets."""

import itertools
import random
import unittest

from namewants.errors import WantError
from namewants.laying import taught
from namewants.nets import Net
from states import copied, frozen

A, B, C = ("a",), ("b",), ("a", "c")


def full_pairs(net):
    """The pairs (sender, receiver) that have a letter."""
    return [pair for way in net.ways() for pair in (way, way[::-1]) if net.on_way(*pair)]


def net_of(houses, ways, tables, owners, life=0, **more):
    """A net with these sides in the row of () of each house, A being owned by these."""
    net = Net(houses, ways, **more)
    for house, sides in enumerate(tables):
        net.teach(house, (), list(sides))
    for house in owners:
        net.own(house, A, 100 + house, life)
    return net


def random_net(chance, most):
    """A net of some shape, with tables and owners by chance."""
    houses = chance.randrange(2, most + 1)
    share = chance.choice((0.3, 0.6, 1))
    ways = [way for way in itertools.combinations(range(houses), 2) if chance.random() < share]
    tables = []
    for house in range(houses):
        sides = [sum(way) - house for way in ways if house in way]
        tables.append(chance.sample(sides, chance.randrange(len(sides) + 1)) if chance.randrange(3) else sides)
    owners = [house for house in range(houses) if chance.randrange(4) == 0]
    return net_of(houses, ways, tables, owners, life=chance.choice((0, 0, 1, 5)), room=chance.choice((0, 0, 1, 4)),
                  wait=chance.choice((1, 2, 6)))


class WholeTest(unittest.TestCase):
    def found_or_ended(self, net, asks):
        """All letters have come: who is led to an owner has got a thing, all others end by the ticks of a wait."""
        for house, asker, leads in asks:
            end = net.end(house, asker)
            if leads:
                self.assertEqual(len(end), 1)
                self.assertIn((A, end[0]), [row[:2] for owner in range(net.size()) for row in net.at_house(owner)[2]])
            else:
                self.assertIn(end, ((), (None,)))


class EveryOrderTest(WholeTest):
    """Every order in which asks are made and letters of unlike ways come."""

    def every_order(self, net, houses, most=6000):
        """How many orders' ends there are; None, if there are too many steps to walk all."""
        seen, left, ends = set(), [(net, (None,) * len(houses))], 0
        led = [net.leads(house, A) for house in houses]
        while left:
            here, askers = left.pop()
            state = (frozen(here), askers)
            if state in seen:
                continue
            seen.add(state)
            if len(seen) > most:
                return None
            steps = 0
            for place, house in enumerate(houses):
                if askers[place] is None:
                    there = copied(here)
                    asker = there.ask(house, A)
                    left.append((there, askers[:place] + (asker,) + askers[place + 1:]))
                    steps += 1
            for pair in full_pairs(here):
                there = copied(here)
                self.assertTrue(there.come(*pair))
                left.append((there, askers))
                steps += 1
            if steps == 0:
                self.found_or_ended(here, list(zip(houses, askers, led)))
                ends += 1
        return ends

    def test_rows(self):
        for tables, asks in ((((1,), (2,), ()), (0, 0, 1)), (((1,), (0, 2), (1,)), (0, 1, 2)),
                             (((1,), (2, 0), ()), (1, 0)), (((), (0, 2), (1,)), (2, 1, 0))):
            for owners in ((2,), (0,), (0, 2), ()):
                for room in (0, 4):
                    net = net_of(3, [(0, 1), (1, 2)], tables, owners, room=room)
                    self.assertTrue(self.every_order(net, asks))

    def test_rings(self):
        ways = [(0, 1), (0, 2), (1, 2)]
        for tables in (((1,), (2,), (0,)), ((1, 2), (2, 0), (0, 1)), ((2, 1), (0, 2), (1,)), ((2,), (0, 2), (1, 0))):
            for owners in ((2,), (1, 2), ()):
                for room in (0, 4):
                    net = net_of(3, ways, tables, owners, room=room)
                    self.assertTrue(self.every_order(net, (0, 1)))
                    self.assertTrue(self.every_order(net, (0, 0)))

    def test_stars(self):
        ways = [(0, 1), (0, 2), (0, 3)]
        for tables in (((3,), (0,), (0,), ()), ((1, 2, 3), (0,), (0,), (0,)), ((1, 2), (0,), (0,), (0,))):
            for owners in ((3,), ()):
                for room in (0, 4):
                    net = net_of(4, ways, tables, owners, room=room)
                    self.assertTrue(self.every_order(net, (1, 2)))

    def test_rounds_beside_the_way(self):
        """1, 2 and 3 ask one another round; 3 alone knows the owner."""
        ways = [(0, 1), (1, 2), (1, 3), (2, 3), (3, 4)]
        for tables in (((1,), (2,), (3,), (1, 4), ()), ((1,), (3, 2), (1,), (2, 4), ())):
            self.assertTrue(self.every_order(net_of(5, ways, tables, (4,), room=0), (0, 2)))

    def test_parts_that_do_not_hang_together(self):
        net = net_of(5, [(0, 1), (2, 3), (3, 4)], ((1,), (0,), (3,), (4, 2), (3,)), (4,), room=0)
        self.assertTrue(self.every_order(net, (0, 2)))
        self.assertTrue(self.every_order(net, (1, 3, 2)))

    def test_nets_by_chance(self):
        chance = random.Random(2)
        walked = 0
        for number in range(150):
            net = random_net(chance, 4)
            asks = tuple(chance.randrange(net.size()) for ask in range(chance.randrange(1, 4)))
            walked += self.every_order(net, asks, 1500) is not None
        self.assertGreater(walked, 100)


class SomeOrdersTest(WholeTest):
    """Nets of up to eight houses, and orders by chance."""

    def asked_once(self, net, before, sides):
        """Keep which sides each wait has asked; none is asked twice."""
        for house in range(net.size()):
            names = [row[0] for row in net.at_house(house)[0]]
            for name in list(sides[house]):
                if name not in names:
                    del sides[house][name]
            for way in net.ways():
                for pair in (way, way[::-1]):
                    if pair[0] == house:
                        for word, name, *rest in net.on_way(*pair)[before[pair]:]:
                            if word == "ask":
                                asked = sides[house].setdefault(name, [])
                                self.assertNotIn(pair[1], asked)
                                asked.append(pair[1])

    def many(self, net, fewer=None):
        """How many letters each pair has, less one for the pair whose letter comes."""
        return {pair: len(net.on_way(*pair)) - (pair == fewer) for way in net.ways() for pair in (way, way[::-1])}

    def walked(self, chance, net, houses, names=(A,)):
        """Make the asks and let all letters come by chance: what was asked."""
        asks, houses, sides, steps = [], list(houses), [{} for house in range(net.size())], 0
        while houses or len(net):
            steps += 1
            self.assertLess(steps, 3000)
            if houses and (not len(net) or chance.randrange(4) == 0):
                house, name, before = houses.pop(), chance.choice(names), self.many(net)
                asks.append((house, name, net.ask(house, name)))
            else:
                pair = chance.choice(full_pairs(net))
                before = self.many(net, pair)
                self.assertTrue(net.come(*pair))
            self.asked_once(net, before, sides)
        return asks

    def test_found_or_ended(self):
        chance = random.Random(21)
        led = 0
        for number in range(500):
            net = random_net(chance, 8)
            houses = [chance.randrange(net.size()) for ask in range(chance.randrange(1, 8))]
            asks = [(house, asker, net.leads(house, name)) for house, name, asker in self.walked(chance, net, houses)]
            self.found_or_ended(net, asks)
            led += len([ask for ask in asks if ask[2]])
            for tick in range(6):
                net.tick()
            for house, asker, leads in asks:
                self.assertEqual(len(net.end(house, asker)), 1)
        self.assertGreater(led, 300)

    def test_several_names_at_once(self):
        chance = random.Random(22)
        for number in range(150):
            net = random_net(chance, 6)
            for name in (B, C):
                net.own(chance.randrange(net.size()), name, 7, 0)
            houses = [chance.randrange(net.size()) for ask in range(12)]
            for house, name, asker in self.walked(chance, net, houses, (A, B, C)):
                end = net.end(house, asker)
                self.assertEqual(net.leads(house, name), end not in ((), (None,)))

    def test_settled(self):
        chance = random.Random(23)
        for number in range(200):
            net = random_net(chance, 8)
            asks = []
            for house in range(net.size()):
                asks.append((house, net.ask(house, A), net.leads(house, A)))
                if chance.randrange(2):
                    net.settle()
            net.settle()
            self.assertEqual(len(net), 0)
            self.found_or_ended(net, asks)

    def test_laid_tables_alone(self):
        """All that hang together with a home of the longest told beginning find the name."""
        chance = random.Random(24)
        name = ("a", "c", "d")
        for number in range(250):
            houses = chance.randrange(2, 9)
            ways = [way for way in itertools.combinations(range(houses), 2) if chance.randrange(3) == 0]
            net = Net(houses, ways, room=chance.choice((0, 4)))
            homes = [(house, beginning) for house in range(houses) for beginning in ((), A, C, B, name + ("e",))
                     if chance.randrange(5) == 0]
            taught(net, homes)
            told = [beginning for house, beginning in homes if name[:len(beginning)] == beginning]
            longest = max(told, key=len, default=None)
            near = {house for house, beginning in homes if beginning == longest}
            for house in near:
                net.own(house, name, house, 0)
            for step in range(houses):
                near |= {house for way in ways if near & set(way) for house in way}
            for house, asked, asker in self.walked(chance, net, range(houses), (name,)):
                self.assertIs(net.leads(house, name), house in near)
                end = net.end(house, asker)
                self.assertEqual(end, (end[0],) if house in near else (None,))
                self.assertIs(end[0] is not None, house in near)


class LostTest(unittest.TestCase):
    """Letters lost, ways cut, houses gone, ticks between: each ask comes to one end, and no thing is too old."""

    NAMES = (A, B, C)

    def setUp(self):
        self.chance = random.Random(25)

    def owned(self, net, past):
        """Keep which values are owned at this tick, and till when each lives by that."""
        for house in net.alive():
            for name, value, life in net.at_house(house)[2]:
                past[(name, value)] = max(past.get((name, value), 0), net.now() + life)

    def owned_anew(self, net):
        """Give most own things other values, so that a value that is too old is known by itself."""
        for house in net.alive():
            for name, value, life in net.at_house(house)[2]:
                if self.chance.randrange(4):
                    net.own(house, name, self.chance.randrange(1000), life)

    def deed(self, net):
        """A deed by chance, but no ask."""
        chance = self.chance
        house, name = chance.randrange(net.size()), chance.choice(self.NAMES)
        kind = chance.randrange(24)
        pairs = full_pairs(net)
        if kind < 12 and pairs:
            return net.come(*chance.choice(pairs))
        if kind < 14 and pairs:
            return net.lose(*chance.choice(pairs))
        if kind < 18:
            net.tick()
            return self.owned_anew(net)
        if kind < 19 and net.ways():
            return chance.choice((net.cut, net.mend, net.mend))(*chance.choice(net.ways()))
        if kind < 21:
            return net.own(house, name, chance.randrange(1000), chance.choice((0, 1, 2, 3)))
        if kind == 21:
            return net.disown(house, name)
        if kind == 22:
            return net.settle()
        return net.leave(house) if chance.randrange(5) == 0 else None

    def checked(self, net, asks, past, wait):
        """Ends stay, come in time, and tell what was owned."""
        for ask in asks:
            end = net.end(ask["house"], ask["asker"])
            if ask["end"]:
                self.assertEqual(end, ask["end"])
            elif end:
                self.assertEqual(len(end), 1)
                ask["end"] = end
                if end[0] is not None:
                    self.assertGreaterEqual(past[(ask["name"], end[0])], net.now())
            elif ask["house"] in net.alive():
                self.assertLess(net.now() - ask["now"], wait)
        for house in net.alive():
            for name, value, until in net.at_house(house)[1]:
                self.assertGreater(until, net.now())
                self.assertLessEqual(until, past[(name, value)])

    def test_each_ask_has_one_end(self):
        chance = self.chance
        got = 0
        for number in range(250):
            houses, wait = chance.randrange(2, 8), chance.choice((1, 2, 3, 6))
            ways = [way for way in itertools.combinations(range(houses), 2) if chance.randrange(5) < 3]
            net = Net(houses, ways, room=chance.choice((0, 1, 4)), wait=wait)
            taught(net, [(house, ()) for house in range(houses) if chance.randrange(3) == 0])
            asks, past = [], {}
            for step in range(80):
                if chance.randrange(3) == 0 and net.alive():
                    house, name = chance.choice(net.alive()), chance.choice(self.NAMES)
                    asks.append({"house": house, "name": name, "asker": net.ask(house, name), "now": net.now(),
                                 "end": ()})
                else:
                    try:
                        self.deed(net)
                    except WantError:
                        pass
                self.owned(net, past)
                self.checked(net, asks, past, wait)
            got += len([ask for ask in asks if ask["end"] not in ((), (None,))])
        self.assertGreater(got, 500)

    def test_the_owner_goes_its_thing_lives_on(self):
        net = net_of(3, [(0, 1), (1, 2)], ((1,), (2,), ()), (2,), life=2)
        net.ask(1, A)
        net.settle()
        net.leave(2)
        for now, end in ((0, (102,)), (1, (102,)), (2, ())):
            asker = net.ask(0, A)
            net.settle()
            self.assertEqual(net.end(0, asker), end)
            net.tick()


class JoinedTest(unittest.TestCase):
    """[1]: asks for one name are joined, and the answer is led back to all who asked."""

    def test_one_ask_for_all(self):
        net = net_of(5, [(0, 3), (1, 3), (2, 3), (3, 4)], ((3,), (3,), (3,), (4,), ()), (4,))
        for house in (0, 1, 2, 0):
            net.ask(house, A)
        for house in (0, 1, 2):
            net.come(house, 3)
        self.assertEqual(net.on_way(3, 4), [("ask", A)])
        self.assertEqual(net.settle(), 5)
        for house, asker in ((0, 0), (0, 1), (1, 0), (2, 0)):
            self.assertEqual(net.end(house, asker), (104,))

    def test_kept_by_all_on_the_way(self):
        net = net_of(4, [(0, 1), (1, 2), (2, 3)], ((1,), (2,), (3,), ()), (3,), life=2)
        net.ask(0, A)
        self.assertEqual(net.settle(), 6)
        self.assertEqual([net.at_house(house)[1] for house in range(4)], [[(A, 103, 2)]] * 3 + [[]])
        net.ask(0, A)
        self.assertEqual(net.settle(), 0)
        net.tick()
        net.tick()
        self.assertEqual([net.at_house(house)[1] for house in range(4)], [[]] * 4)
        net.ask(0, A)
        self.assertEqual(net.settle(), 6)


if __name__ == "__main__":
    unittest.main()
