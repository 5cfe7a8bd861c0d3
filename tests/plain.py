"""A house and a net told once more, word by word as the document does, with plain lists only."""

from namewants.errors import BadName, BadSides, Gone, NoHouse, NoLetter, NoWay


class PlainHouse:
    def __init__(self, sides, room, wait):
        self.sides, self.room, self.wait = sides, room, wait
        self.rows, self.things, self.kept, self.waiting, self.heard, self.ends = {}, {}, [], [], [], []

    def sides_for(self, name):
        for many in range(len(name), -1, -1):
            if name[:many] in self.rows:
                return [side for side in self.rows[name[:many]] if side in self.sides]
        return []

    def tell(self, who, letter):
        if isinstance(who, tuple):
            assert self.ends[who[1]] == ()
            self.ends[who[1]] = (letter[2] if len(letter) == 4 else None,)
            return []
        return [(who, letter)]

    def tell_all(self, many, letter):
        return [told for who in many for told in self.tell(who, letter)]

    def wait_for(self, name):
        found = [wait for wait in self.waiting if wait["name"] == name]
        return found[0] if found else None

    def asked(self, who, name, now):
        if name in self.things:
            value, life = self.things[name]
            return self.tell(who, ("thing", name, value, now + life))
        for row in list(self.kept):
            if row[0] == name and row[2] > now:
                self.kept.remove(row)
                self.kept.append(row)
                return self.tell(who, ("thing",) + row)
        for heard, then, value, until in reversed(self.heard):
            if heard == name and then == now:
                return self.tell(who, ("thing", name, value, until))
        wait = self.wait_for(name)
        if wait is not None:
            if who not in wait["who"]:
                wait["who"].append(who)
            letters = []
            for side in self.sides_for(name):
                if side not in wait["asked"] and side not in wait["noes"] and not wait["who"] == [side]:
                    wait["asked"].append(side)
                    letters.append((side, ("ask", name)))
            return letters
        sides = [side for side in self.sides_for(name) if side != who]
        if not sides:
            return self.tell(who, ("no", name))
        self.waiting.append({"name": name, "since": now, "who": [who], "asked": sides, "noes": []})
        return [(side, ("ask", name)) for side in sides]

    def ask(self, name, now):
        self.ends.append(())
        return (len(self.ends) - 1, self.asked(("own", len(self.ends) - 1), name, now))

    def come(self, side, letter, now):
        word, name = letter[:2]
        if word == "ask":
            return self.asked(side, name, now)
        wait = self.wait_for(name)
        if wait is None or side not in wait["asked"]:
            return []
        if word == "thing" and letter[3] >= now:
            self.put(letter[1:], now)
            self.heard.append((name, now, letter[2], letter[3]))
            self.waiting.remove(wait)
            return self.tell_all([who for who in wait["who"] if who != side], letter)
        wait["asked"].remove(side)
        wait["noes"].append(side)
        if wait["asked"]:
            return []
        self.waiting.remove(wait)
        return self.tell_all(wait["who"], ("no", name))

    def put(self, row, now):
        self.kept = [other for other in self.kept if other[0] != row[0]]
        if row[2] > now:
            self.kept.append(row)
        if len(self.kept) > self.room:
            self.kept.pop(0)

    def tick(self, now):
        self.kept = [row for row in self.kept if row[2] > now]
        late = [wait for wait in self.waiting if now - wait["since"] >= self.wait]
        self.waiting = [wait for wait in self.waiting if wait not in late]
        return [told for wait in late for told in self.tell_all(wait["who"], ("no", wait["name"]))]

    def own(self, name, value, life):
        self.things[name] = (value, life)

    def disown(self, name):
        if name not in self.things:
            raise BadName
        del self.things[name]

    def teach(self, beginning, sides):
        self.rows[beginning] = list(sides)

    def forget(self, beginning):
        if beginning not in self.rows:
            raise BadName
        del self.rows[beginning]

    def told(self):
        """What a house tells of itself: waits, keeps, own things, table."""
        waits = [(wait["name"], wait["since"], wait["who"], wait["asked"], wait["noes"]) for wait in self.waiting]
        owns = sorted((name, value, life) for name, (value, life) in self.things.items())
        return (waits, self.kept, owns, sorted(self.rows.items()))


class PlainNet:
    def __init__(self, houses, ways, room, wait):
        self.ways = ways
        self.houses = [PlainHouse([sum(way) - one for way in ways if one in way], room, wait) for one in range(houses)]
        self.letters, self.broken, self.gone, self.now = [], set(), set(), 0

    def need(self, *houses):
        if any(house >= len(self.houses) for house in houses):
            raise NoHouse

    def need_alive(self, house):
        self.need(house)
        if house in self.gone:
            raise Gone(house)

    def need_way(self, one, other):
        self.need(one, other)
        if tuple(sorted((one, other))) not in self.ways:
            raise NoWay

    def post(self, sender, letters):
        self.letters += [(sender, receiver, letter) for receiver, letter in letters]

    def ask(self, house, name):
        self.need_alive(house)
        asker, letters = self.houses[house].ask(name, self.now)
        self.post(house, letters)
        return asker

    def own(self, house, name, value, life):
        self.need_alive(house)
        self.houses[house].own(name, value, life)

    def disown(self, house, name):
        self.need_alive(house)
        self.houses[house].disown(name)

    def teach(self, house, beginning, sides):
        self.need_alive(house)
        if any(side not in self.houses[house].sides for side in sides):
            raise BadSides
        self.houses[house].teach(beginning, sides)

    def forget(self, house, beginning):
        self.need_alive(house)
        self.houses[house].forget(beginning)

    def oldest(self, sender, receiver):
        self.need_way(sender, receiver)
        for letter in self.letters:
            if letter[:2] == (sender, receiver):
                self.letters.remove(letter)
                return letter[2]
        raise NoLetter

    def come(self, sender, receiver):
        letter = self.oldest(sender, receiver)
        if receiver in self.gone or tuple(sorted((sender, receiver))) in self.broken:
            return False
        self.post(receiver, self.houses[receiver].come(sender, letter, self.now))
        return True

    def lose(self, sender, receiver):
        self.oldest(sender, receiver)

    def cut(self, one, other):
        self.need_way(one, other)
        self.broken.add(tuple(sorted((one, other))))

    def mend(self, one, other):
        self.need_way(one, other)
        self.broken.discard(tuple(sorted((one, other))))

    def leave(self, house):
        self.need_alive(house)
        self.gone.add(house)

    def settle(self):
        many = 0
        while self.letters:
            self.come(*min(letter[:2] for letter in self.letters))
            many += 1
        return many

    def tick(self):
        self.now += 1
        for number, house in enumerate(self.houses):
            if number not in self.gone:
                self.post(number, house.tick(self.now))
