"""A net: houses, the ways between them, and the letters on these."""

from namewants.checks import both_ways, is_within, need_houses, need_sides, need_ways
from namewants.errors import BadSides, Gone, NoHouse, NoLetter, NoWay
from namewants.houses import House
from namewants.names import need_beginning, need_name


class Net:
    """Houses numbered from 0 on, and for each pair (sender, receiver) the letters, the oldest first."""

    def __init__(self, houses, ways, *, room=4, wait=6):
        need_houses(houses)
        need_ways(ways, houses)
        pairs = both_ways(ways)
        self.houses = []
        for number in range(houses):
            sides = [other for one, other in pairs if one == number]
            self.houses.append(House(number, sides, room=room, wait=wait))
        # The pairs stand rising here, which settle and ways lean on.
        self.posts = {pair: [] for pair in pairs}
        self.broken = {}
        self.gone = {}
        self.ticks = 0

    def ask(self, house, name):
        """Ask by a new own asker of a house: that one's number."""
        self.need_alive(house)
        asker, letters = self.houses[house].ask(name, self.ticks)
        self.post(house, letters)
        return asker

    def end(self, house, asker):
        """What an own asker of a house was told, in a tuple; () as long as it wasn't."""
        self.need_house(house)
        return self.houses[house].end(asker)

    def own(self, house, name, value, life):
        """Let a house have this thing of its own from now on."""
        self.need_alive(house)
        self.houses[house].own(name, value, life)

    def disown(self, house, name):
        """Let a house have the thing of this name no more."""
        self.need_alive(house)
        self.houses[house].disown(name)

    def teach(self, house, beginning, sides):
        """Give a beginning these sides in the table of a house."""
        self.need_alive(house)
        need_beginning(beginning)
        need_sides(sides)
        if not all([(house, side) in self.posts for side in sides]):
            raise BadSides("a side to which no way leads")
        self.houses[house].teach(beginning, sides)

    def forget(self, house, beginning):
        """Take the row of a beginning out of the table of a house."""
        self.need_alive(house)
        self.houses[house].forget(beginning)

    def come(self, sender, receiver):
        """Let the oldest letter come: whether it was heard."""
        letter = self.taken(sender, receiver)
        if receiver in self.gone or self.is_cut(sender, receiver):
            return False
        self.post(receiver, self.houses[receiver].come(sender, letter, self.ticks))
        return True

    def lose(self, sender, receiver):
        """Lose the oldest letter."""
        self.taken(sender, receiver)

    def cut(self, one, other):
        """Cut a way: what comes over it is lost."""
        self.need_way(one, other)
        self.broken[(min(one, other), max(one, other))] = True

    def mend(self, one, other):
        """Mend a way, cut or not."""
        self.need_way(one, other)
        self.broken[(min(one, other), max(one, other))] = False

    def leave(self, house):
        """Let a house be gone from now on."""
        self.need_alive(house)
        self.gone[house] = True

    def settle(self):
        """Let letters come, each time of the least pair that has one, till none is left: how many came."""
        many = 0
        pair = self.least_pair()
        while pair is not None:
            self.come(pair[0], pair[1])
            many += 1
            pair = self.least_pair()
        return many

    def tick(self):
        """Make it one tick later, for all houses that aren't gone, rising."""
        self.ticks += 1
        for number in self.alive():
            self.post(number, self.houses[number].tick(self.ticks))

    def now(self):
        """The ticks so far."""
        return self.ticks

    def size(self):
        """How many houses there are, gone ones too."""
        return len(self.houses)

    def ways(self):
        """All ways, cut ones too, rising."""
        return [(one, other) for one, other in self.posts if one < other]

    def on_way(self, sender, receiver):
        """The letters from one to the other, the oldest first."""
        self.need_way(sender, receiver)
        return list(self.posts[(sender, receiver)])

    def alive(self):
        """The houses that aren't gone, rising."""
        return [number for number in range(len(self.houses)) if number not in self.gone]

    def at_house(self, number):
        """The waits, keeps, own things and table of a house, gone or not."""
        self.need_house(number)
        house = self.houses[number]
        return (house.waits(), house.keeps(), house.owns(), house.table())

    def leads(self, house, name):
        """Whether a way by the tables leads from a house to an owner, gone ones and cut ways left out."""
        self.need_house(house)
        need_name(name)
        reached = [house] if house not in self.gone else []
        place = 0
        while place < len(reached):
            here = reached[place]
            if self.houses[here].has(name):
                return True
            reached += [side for side in self.houses[here].toward(name)
                        if side not in reached and side not in self.gone and not self.is_cut(here, side)]
            place += 1
        return False

    def __len__(self):
        return len([letter for pair in self.posts for letter in self.posts[pair]])

    def is_cut(self, one, other):
        """Whether the way between these two is cut."""
        return self.broken.get((min(one, other), max(one, other)), False)

    def least_pair(self):
        """The least pair (sender, receiver) that has a letter; None without one."""
        for pair in self.posts:
            if self.posts[pair]:
                return pair
        return None

    def post(self, sender, letters):
        """Put letters of a house on its ways."""
        for receiver, letter in letters:
            self.posts[(sender, receiver)].append(letter)

    def taken(self, sender, receiver):
        """The oldest letter, taken off its way."""
        self.need_way(sender, receiver)
        letters = self.posts[(sender, receiver)]
        if not letters:
            raise NoLetter("no letter on this way")
        return letters.pop(0)

    def need_house(self, house):
        """Refuse what is no house of this net."""
        if not is_within(house, 0, len(self.houses) - 1):
            raise NoHouse("no house of this net")

    def need_alive(self, house):
        """Refuse what is no house of this net, and one that is gone."""
        self.need_house(house)
        if house in self.gone:
            raise Gone(house)

    def need_way(self, one, other):
        """Refuse what are no two houses with a way between."""
        self.need_house(one)
        self.need_house(other)
        if (one, other) not in self.posts:
            raise NoWay("no way between these two")
