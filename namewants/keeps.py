"""Keeps: things that are kept for a time, in so much room."""

from namewants.checks import need_tick, need_value, need_within
from namewants.names import need_name

ROOM_MOST = 9


class Keeps:
    """Names, each with value and until, the foremost first."""

    def __init__(self, room):
        need_within(room, 0, ROOM_MOST)
        self.room = room
        self.kept = {}

    def put(self, name, value, until, now):
        """Keep a thing behind all others, in the place of one of its name."""
        need_name(name)
        need_value(value)
        need_tick(until)
        need_tick(now)
        if name in self.kept:
            del self.kept[name]
        if until > now:
            self.kept[name] = (value, until)
        if len(self.kept) > self.room:
            del self.kept[list(self.kept)[0]]

    def got(self, name, now):
        """The value and until of a thing that is there now, which goes behind all others; else None."""
        need_name(name)
        need_tick(now)
        if name not in self.kept or self.kept[name][1] <= now:
            return None
        thing = self.kept.pop(name)
        self.kept[name] = thing
        return thing

    def aged(self, now):
        """The names of those that are no more, the foremost first: they go."""
        need_tick(now)
        names = [name for name in self.kept if self.kept[name][1] <= now]
        for name in names:
            del self.kept[name]
        return names

    def rows(self):
        """All that are kept, the foremost first."""
        return [(name, self.kept[name][0], self.kept[name][1]) for name in self.kept]

    def __len__(self):
        return len(self.kept)
