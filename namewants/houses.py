"""A house: what it does when it is asked, at each letter, and at a tick."""

from namewants.checks import SIDE_MOST, is_tick, is_value, is_whole, is_within
from namewants.checks import need_life, need_sides, need_tick, need_value, need_within
from namewants.errors import BadLetter, BadName, BadNumber, BadSides, NoWay
from namewants.keeps import Keeps
from namewants.names import is_name, need_name
from namewants.tables import Table

WAIT_LEAST = 1
WAIT_MOST = 20


def is_letter(thing):
    """Whether it is an ask, a thing or a no."""
    if not isinstance(thing, tuple) or len(thing) < 2 or not is_name(thing[1]):
        return False
    if thing[0] == "thing":
        return len(thing) == 4 and is_value(thing[2]) and is_tick(thing[3])
    return thing[0] in ("ask", "no") and len(thing) == 2


class Wait:
    """A wait for one name: its askers are sides and, of own askers, tuples ("own", number)."""

    def __init__(self, since):
        self.since = since
        self.askers = []
        self.asked = []
        self.noes = []


class House:
    """A house with its sides, table, own things, keeps and waits."""

    def __init__(self, number, sides, *, room=4, wait=6):
        need_within(number, 0, SIDE_MOST)
        need_sides(sides)
        if number in sides:
            raise BadSides("no side of itself")
        self.store = Keeps(room)
        need_within(wait, WAIT_LEAST, WAIT_MOST)
        self.number = number
        self.beside = list(sides)
        self.patience = wait
        self.learned = Table()
        self.things = {}
        self.waiting = {}
        self.heard = {}
        self.ends = []

    def ask(self, name, now):
        """Ask by a new asker of its own: that one's number, and the letters."""
        need_name(name)
        need_tick(now)
        asker = len(self.ends)
        self.ends.append(())
        return (asker, self.answered(("own", asker), name, now))

    def come(self, side, letter, now):
        """Take a letter from a side: the letters that it makes of it."""
        if not is_whole(side) or side not in self.beside:
            raise NoWay("no side of this house")
        if not is_letter(letter):
            raise BadLetter("no letter")
        need_tick(now)
        name = letter[1]
        if letter[0] == "ask":
            return self.answered(side, name, now)
        if name not in self.waiting or side not in self.waiting[name].asked:
            return []
        if letter[0] == "no" or letter[3] < now:
            return self.told_no(side, name)
        return self.told_thing(side, letter, now)

    def tick(self, now):
        """Let what is too old go, and end the waits that are too long: the letters of that."""
        need_tick(now)
        self.store.aged(now)
        late = [name for name in self.waiting if now - self.waiting[name].since >= self.patience]
        letters = []
        for name in late:
            letters += self.ended(name)
        return letters

    def own(self, name, value, life):
        """Have this thing of its own from now on."""
        need_name(name)
        need_value(value)
        need_life(life)
        self.things[name] = (value, life)

    def disown(self, name):
        """Have the thing of this name no more."""
        need_name(name)
        if name not in self.things:
            raise BadName("no own thing of this name")
        del self.things[name]

    def teach(self, beginning, sides):
        """Give a beginning these sides in its table."""
        self.learned.put(beginning, sides)

    def forget(self, beginning):
        """Take the row of a beginning out of its table."""
        self.learned.drop(beginning)

    def end(self, asker):
        """What an own asker was told, in a tuple; () as long as it wasn't."""
        if not is_within(asker, 0, len(self.ends) - 1):
            raise BadNumber("no asker of this house")
        return self.ends[asker]

    def waits(self):
        """Tuples (name, since, who asked, asked, told no), as they began."""
        rows = []
        for name in self.waiting:
            wait = self.waiting[name]
            rows.append((name, wait.since, list(wait.askers), list(wait.asked), list(wait.noes)))
        return rows

    def keeps(self):
        """What is kept, the foremost first."""
        return self.store.rows()

    def owns(self):
        """Tuples (name, value, life) of its own things, rising."""
        return [(name, self.things[name][0], self.things[name][1]) for name in sorted(self.things)]

    def table(self):
        """The rows of its table."""
        return self.learned.rows()

    def has(self, name):
        """Whether a thing of this name is its own."""
        return name in self.things

    def toward(self, name):
        """The table's sides for a name that are its sides, in the table's order."""
        return [side for side in self.learned.sides(name) if side in self.beside]

    def found(self, name, now):
        """Value and until of the thing, if it has it; else None."""
        if name in self.things:
            value, life = self.things[name]
            return (value, now + life)
        kept = self.store.got(name, now)
        if kept is not None:
            return kept
        return self.heard.get((name, now))

    def answered(self, asker, name, now):
        """Tell the asker the thing, or let it wait for it, or tell it no."""
        thing = self.found(name, now)
        if thing is not None:
            return self.told([asker], ("thing", name, thing[0], thing[1]))
        wait = self.waiting.get(name, Wait(now))
        if asker not in wait.askers:
            wait.askers.append(asker)
        # Asked back, the only one who asked could but wait for this house, and this house for it.
        further = [side for side in self.toward(name)
                   if side not in wait.asked and side not in wait.noes and wait.askers != [side]]
        wait.asked.extend(further)
        if not wait.asked:
            return self.told([asker], ("no", name))
        self.waiting[name] = wait
        return [(side, ("ask", name)) for side in further]

    def told_thing(self, side, letter, now):
        """Keep a thing that was waited for, and tell it to all who asked but the side that told it."""
        name, value, until = letter[1:]
        self.store.put(name, value, until, now)
        # Keeps may have no room, or it ends now: who asks at this same now is to get it all the same.
        self.heard[(name, now)] = (value, until)
        wait = self.waiting.pop(name)
        return self.told([asker for asker in wait.askers if asker != side], letter)

    def told_no(self, side, name):
        """Take a no of a side that was asked; the last one ends the wait."""
        wait = self.waiting[name]
        wait.asked.remove(side)
        wait.noes.append(side)
        return [] if wait.asked else self.ended(name)

    def ended(self, name):
        """End a wait: all who asked are told no."""
        wait = self.waiting.pop(name)
        return self.told(wait.askers, ("no", name))

    def told(self, askers, letter):
        """Tell each asker, in turn, a thing or a no: the letters to those that are sides."""
        end = (letter[2],) if letter[0] == "thing" else (None,)
        letters = []
        for asker in askers:
            if isinstance(asker, tuple):
                self.ends[asker[1]] = end
            else:
                letters.append((asker, letter))
        return letters
