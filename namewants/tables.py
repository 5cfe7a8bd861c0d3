"""Tables: by which sides a name is asked on."""

from namewants.checks import need_sides
from namewants.errors import BadName
from namewants.names import PART_COUNT, need_beginning, need_name, part_at


class Table:
    """Beginnings, each with its sides in their order."""

    def __init__(self):
        self.held = {}

    def put(self, beginning, sides):
        """Give a beginning these sides from now on."""
        need_beginning(beginning)
        need_sides(sides)
        self.held[beginning] = tuple(sides)

    def drop(self, beginning):
        """Take the row of a beginning away."""
        need_beginning(beginning)
        if beginning not in self.held:
            raise BadName("no row of this beginning")
        del self.held[beginning]

    def way(self, name):
        """The longest beginning here with which the name begins, and its sides; None without one."""
        need_name(name)
        for many in range(len(name), -1, -1):
            beginning = name[:many]
            if beginning in self.held:
                return (beginning, list(self.held[beginning]))
        return None

    def sides(self, name):
        """The sides of the name's way, none without one."""
        found = self.way(name)
        return [] if found is None else found[1]

    def rows(self):
        """All beginnings with their sides, rising by beginnings."""
        return [(beginning, list(self.held[beginning])) for beginning in sorted(self.held)]

    def parted(self, other):
        """The least number of parts of a name that has other sides there, and such a name; None of alike tables."""
        for name in telling_names(self.held, other.held):
            if self.sides(name) != other.sides(name):
                return (len(name), name)
        return None

    def lean(self):
        """A new table, alike, with as few rows as can be."""
        first = first_sides(self.held)
        table = Table()
        if first:
            table.put((), list(first))
        for name in row_names(self.held, first):
            above = self.sides(name[:-1]) if len(name) > 1 else list(first)
            sides = self.sides(name)
            if sides != above:
                table.put(name, sides)
        return table

    def __len__(self):
        return len(self.held)

    def __eq__(self, other):
        return isinstance(other, Table) and self.held == other.held


def telling_names(held, other):
    """Names of which one parts two tables if any does, those of fewer parts first."""
    # A name of several parts without a row of its own has the sides of the name one part shorter, so among
    # the shortest that part the tables there are only names with a row, or of one part; and all names of one
    # part without a row are as good as one another.
    names = [beginning for beginning in list(held) + list(other) if beginning]
    spare = spare_name(held, other)
    if spare is not None:
        names.append(spare)
    return sorted(names, key=lambda name: (len(name), name))


def spare_name(held, other):
    """A name of one part without a row in either; None if all have one."""
    for number in range(PART_COUNT):
        name = (part_at(number),)
        if name not in held and name not in other:
            return name
    return None


def first_sides(held):
    """The sides of () by which the rows are fewest, no sides standing for no row."""
    # Each name has its sides whatever the rows are, so a name of several parts needs a row just where the name
    # one part shorter has other sides. () alone is no name: its sides are free, and best are those that most
    # names of one part have. There are not endlessly many of these, so it need not be the sides it has.
    usual = held.get((), ())
    counts = {usual: PART_COUNT}
    for beginning in held:
        if len(beginning) == 1:
            sides = held[beginning]
            counts[usual] -= 1
            counts[sides] = counts.get(sides, 0) + 1
    return max(counts, key=lambda choice: counts[choice] - (1 if choice else 0))


def row_names(held, first):
    """The names that may need a row if () has the sides first."""
    names = [beginning for beginning in held if beginning]
    if first != held.get((), ()):
        every = [(part_at(number),) for number in range(PART_COUNT)]
        names += [name for name in every if name not in held]
    return names
