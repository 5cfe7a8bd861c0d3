import itertools
import random
import unittest

from namewants.errors import BadName, BadSides
from namewants.names import PART_COUNT, is_name, part_at
from namewants.tables import Table
from wrongs import NO_BEGINNINGS, NO_NAMES, NO_SIDES


def table_of(rows):
    """A table with these rows, a dict of sides by beginnings."""
    table = Table()
    for beginning, sides in rows.items():
        table.put(beginning, list(sides))
    return table


def plain_sides(rows, name):
    """The sides of a name by these rows, as the document tells them."""
    fitting = [beginning for beginning in rows if name[:len(beginning)] == beginning]
    return list(rows[max(fitting, key=len)]) if fitting else []


def names_of(parts, most):
    """All names of these parts, those of fewer parts first."""
    return [name for many in range(1, most + 1) for name in itertools.product(parts, repeat=many)]


class PutAndDropTest(unittest.TestCase):
    def test_new_one_is_empty(self):
        table = Table()
        self.assertEqual(table.rows(), [])
        self.assertEqual(len(table), 0)
        self.assertIsNone(table.way(("a",)))
        self.assertEqual(table.sides(("a",)), [])

    def test_put(self):
        table = Table()
        self.assertIsNone(table.put(("a",), [3, 1]))
        self.assertIsNone(table.put((), []))
        self.assertEqual(table.rows(), [((), []), (("a",), [3, 1])])
        self.assertEqual(len(table), 2)

    def test_put_again(self):
        table = table_of({("a",): [1], (): [2]})
        table.put(("a",), [7, 0])
        self.assertEqual(table.rows(), [((), [2]), (("a",), [7, 0])])
        table.put(("a",), [])
        self.assertEqual(table.way(("a",)), (("a",), []))
        self.assertEqual(len(table), 2)

    def test_all_sides(self):
        table = table_of({(): [7, 6, 5, 4, 3, 2, 1, 0]})
        self.assertEqual(table.sides(("x",)), [7, 6, 5, 4, 3, 2, 1, 0])

    def test_drop(self):
        table = table_of({("a",): [1], (): [2], ("a", "b"): [3]})
        self.assertIsNone(table.drop(("a",)))
        self.assertEqual(table.rows(), [((), [2]), (("a", "b"), [3])])
        self.assertIsNone(table.drop(()))
        self.assertIsNone(table.way(("a",)))
        self.assertEqual(len(table), 1)

    def test_drop_of_what_is_not_there(self):
        table = table_of({("a", "b"): [1]})
        for beginning in ((), ("a",), ("b",), ("a", "b", "c")):
            self.assertRaises(BadName, table.drop, beginning)
        table.drop(("a", "b"))
        self.assertRaises(BadName, table.drop, ("a", "b"))

    def test_rows_rise_by_beginnings(self):
        beginnings = [(), ("0",), ("0", "z"), ("a",), ("a", "b"), ("a", "b", "c", "d", "e"), ("a1",), ("aa",), ("b",)]
        for turned in (beginnings, beginnings[::-1], beginnings[4:] + beginnings[:4]):
            table = table_of({beginning: [1] for beginning in turned})
            self.assertEqual(table.rows(), [(beginning, [1]) for beginning in beginnings])
            self.assertEqual(len(table), 9)

    def test_tables_do_not_share(self):
        one, other = Table(), Table()
        one.put((), [1])
        self.assertEqual(len(other), 0)


class WayTest(unittest.TestCase):
    def test_longest_beginning(self):
        table = table_of({(): [0], ("a",): [1], ("a", "b", "c"): [2, 3], ("a", "b", "c", "d", "e"): [4]})
        cases = (
            (("x",), (), [0]),
            (("ab",), (), [0]),
            (("b", "a"), (), [0]),
            (("a",), ("a",), [1]),
            (("a", "b"), ("a",), [1]),
            (("a", "c", "b"), ("a",), [1]),
            (("a", "b", "c"), ("a", "b", "c"), [2, 3]),
            (("a", "b", "c", "d"), ("a", "b", "c"), [2, 3]),
            (("a", "b", "c", "d", "f"), ("a", "b", "c"), [2, 3]),
            (("a", "b", "c", "d", "e"), ("a", "b", "c", "d", "e"), [4]),
        )
        for name, beginning, sides in cases:
            with self.subTest(name=name):
                self.assertEqual(table.way(name), (beginning, sides))
                self.assertEqual(table.sides(name), sides)

    def test_a_row_without_sides_and_no_row(self):
        table = table_of({("a",): [], ("a", "b"): [1]})
        self.assertEqual(table.way(("a",)), (("a",), []))
        self.assertEqual(table.sides(("a",)), [])
        self.assertIsNone(table.way(("b",)))
        self.assertEqual(table.sides(("b",)), [])
        self.assertEqual(table.way(("a", "b")), (("a", "b"), [1]))

    def test_row_without_sides_hides_a_shorter_one(self):
        table = table_of({(): [1], ("a",): []})
        self.assertEqual(table.sides(("a", "b")), [])
        self.assertEqual(table.sides(("b",)), [1])

    def test_as_the_plain_rows(self):
        chance = random.Random(21)
        names = names_of("ab", 5)
        for number in range(60):
            rows = {beginning: chance.sample(range(8), chance.randrange(4))
                    for beginning in chance.sample([()] + names, number % 12)}
            table = table_of(rows)
            for name in names:
                self.assertEqual(table.sides(name), plain_sides(rows, name))


class OwnListsTest(unittest.TestCase):
    def setUp(self):
        self.handed = [1, 2]
        self.table = Table()
        self.table.put(("a",), self.handed)

    def tearDown(self):
        self.assertEqual(self.table.rows(), [(("a",), [1, 2])])

    def test_list_that_was_handed_in(self):
        self.handed.append(3)
        self.handed[0] = 7

    def test_handed_in_is_not_changed(self):
        self.table.put(("b",), self.handed)
        self.table.drop(("b",))
        self.assertEqual(self.handed, [1, 2])

    def test_way(self):
        self.table.way(("a",))[1].append(3)

    def test_sides(self):
        self.table.sides(("a",)).clear()

    def test_sides_without_a_way(self):
        self.table.sides(("b",)).append(5)
        self.assertEqual(self.table.sides(("b",)), [])

    def test_rows(self):
        rows = self.table.rows()
        rows[0][1].append(3)
        rows.clear()

    def test_lean(self):
        lean = self.table.lean()
        lean.put((), [5])
        lean.drop(("a",))


class EqualTest(unittest.TestCase):
    def test_equal(self):
        self.assertTrue(Table() == Table())
        one = table_of({(): [1], ("a",): [2, 3]})
        self.assertTrue(one == table_of({("a",): [2, 3], (): [1]}))
        self.assertFalse(one != table_of({("a",): [2, 3], (): [1]}))
        self.assertIs(one == one, True)

    def test_order_of_sides(self):
        self.assertFalse(table_of({(): [1, 2]}) == table_of({(): [2, 1]}))

    def test_other_rows(self):
        one = table_of({(): [1]})
        for rows in ({}, {("a",): [1]}, {(): [1], ("a",): [1]}, {(): []}, {(): [1, 2]}):
            self.assertFalse(one == table_of(rows))
            self.assertTrue(one != table_of(rows))

    def test_alike_is_not_equal(self):
        self.assertFalse(table_of({(): []}) == Table())

    def test_things_that_are_no_tables(self):
        one = table_of({(): [1]})
        for thing in (None, True, 0, "", [], [((), [1])], {(): [1]}, {(): (1,)}, one.rows(), one.held):
            self.assertIs(one == thing, False)
            self.assertIs(one != thing, True)
        self.assertIs(Table() == {}, False)


class PartedTest(unittest.TestCase):
    def parted(self, one, other):
        """What parts two tables, proven to do so, and told the same number both ways."""
        told, back = one.parted(other), other.parted(one)
        if told is None:
            self.assertIsNone(back)
            return None
        for number, name in (told, back):
            self.assertEqual(number, told[0])
            self.assertTrue(is_name(name))
            self.assertEqual(len(name), number)
            self.assertNotEqual(one.sides(name), other.sides(name))
        self.assertIsInstance(told, tuple)
        return told[0]

    def test_alike(self):
        pairs = (
            ({}, {}),
            ({(): [1]}, {(): [1]}),
            ({(): []}, {}),
            ({("a",): []}, {}),
            ({("a", "b"): [], (): []}, {("c",): []}),
            ({(): [1, 2], ("a",): [1, 2]}, {(): [1, 2]}),
            ({(): [1], ("a",): [2], ("a", "b"): [2]}, {(): [1], ("a",): [2], ("b", "c"): [1]}),
        )
        for one, other in pairs:
            with self.subTest(one=one, other=other):
                self.assertIsNone(self.parted(table_of(one), table_of(other)))

    def test_least_number_of_parts(self):
        pairs = (
            (1, {(): [1]}, {}),
            (1, {(): [1]}, {(): [2]}),
            (1, {(): [1, 2]}, {(): [2, 1]}),
            (1, {(): [1], ("a",): []}, {(): [1]}),
            (1, {("a",): [1]}, {("b",): [1]}),
            (1, {("a",): [1]}, {("a",): [1, 2]}),
            (2, {("a", "b"): [1]}, {}),
            (2, {(): [1], ("a", "b"): []}, {(): [1]}),
            (2, {("a",): [1], ("a", "b"): [2]}, {("a",): [1]}),
            (2, {("a", "b", "c", "d", "e"): [1], ("a", "b", "d"): [4], ("a", "c"): [1]}, {}),
            (1, {("a", "b", "c", "d", "e"): [1], ("b",): [4]}, {}),
            (3, {("a", "b", "c"): [1]}, {("a", "b", "d"): [1]}),
            (4, {(): [3], ("a", "b", "c", "d"): [1]}, {(): [3]}),
            (5, {("a", "b", "c", "d", "e"): [1]}, {}),
            (5, {(): [1], ("a", "b", "c", "d", "e"): [2]}, {(): [1], ("a", "b", "c", "d", "e"): [2, 1]}),
        )
        for number, one, other in pairs:
            with self.subTest(one=one, other=other):
                self.assertEqual(self.parted(table_of(one), table_of(other)), number)

    def test_the_only_name(self):
        one = table_of({(): [1], ("a", "b", "c", "d", "e"): [2]})
        other = table_of({(): [1]})
        self.assertEqual(one.parted(other), (5, ("a", "b", "c", "d", "e")))
        self.assertEqual(table_of({("b",): []}).parted(table_of({("b",): [1]}))[0], 1)

    def test_a_name_that_no_row_names(self):
        rows = {(sign,): [1] for sign in "abcdefghijklmnopqrstuvwxyz0123456789"}
        one, other = table_of(rows), table_of(rows)
        one.put((), [2])
        self.assertEqual(self.parted(one, other), 1)
        self.assertNotIn(one.parted(other)[1], rows)

    def test_spare_names_by_rows_of_both(self):
        one = table_of({(): [2], ("a",): [1]})
        other = table_of({("a",): [1], ("b",): [2], ("c",): [2], ("d", "d"): [2]})
        self.assertEqual(self.parted(one, other), 1)

    def test_with_itself(self):
        table = table_of({(): [1], ("a",): [2]})
        self.assertIsNone(table.parted(table))

    def test_changes_nothing(self):
        one, other = table_of({(): [1], ("a",): [2]}), table_of({("b",): []})
        before = (one.rows(), other.rows())
        one.parted(other)
        self.assertEqual((one.rows(), other.rows()), before)

    def test_as_all_names_tell(self):
        chance = random.Random(212)
        # z is in no row, and so stands for all other parts.
        names = names_of("abz", 5)
        beginnings = [()] + names_of("ab", 5)
        for number in range(150):
            rows = []
            for many in (chance.randrange(5), chance.randrange(5)):
                rows.append({beginning: chance.choice([[], [1], [2], [1, 2], [2, 1]])
                             for beginning in chance.sample(beginnings, many)})
            if number % 2:
                rows[1] = {**rows[0], **rows[1]}
            unlike = [name for name in names if plain_sides(rows[0], name) != plain_sides(rows[1], name)]
            told = self.parted(table_of(rows[0]), table_of(rows[1]))
            self.assertEqual(told, len(unlike[0]) if unlike else None)


class LeanTest(unittest.TestCase):
    def test_rows(self):
        cases = (
            ({}, {}),
            ({(): []}, {}),
            ({(): [1]}, {(): [1]}),
            ({("a",): []}, {}),
            ({("a",): [], ("a", "b"): [1]}, {("a", "b"): [1]}),
            ({(): [1], ("a",): []}, {(): [1], ("a",): []}),
            ({(): [1], ("a",): [1]}, {(): [1]}),
            ({(): [1, 2], ("a",): [2, 1]}, {(): [1, 2], ("a",): [2, 1]}),
            ({(): [1], ("a", "b", "c"): [1]}, {(): [1]}),
            ({(): [1], ("a",): [2], ("a", "b"): [1]}, {(): [1], ("a",): [2], ("a", "b"): [1]}),
            ({(): [1], ("a",): [1], ("a", "b"): [2], ("a", "b", "c"): [2]}, {(): [1], ("a", "b"): [2]}),
            ({("a",): [1], ("a", "b", "c", "d", "e"): [1], ("a", "b", "c", "d"): [2]},
             {("a",): [1], ("a", "b", "c", "d", "e"): [1], ("a", "b", "c", "d"): [2]}),
        )
        for rows, lean in cases:
            with self.subTest(rows=rows):
                table = table_of(rows)
                self.assertEqual(table.lean(), table_of(lean))
                self.assertEqual(table, table_of(rows))

    def test_new_one(self):
        table = table_of({(): [1]})
        self.assertIsInstance(table.lean(), Table)
        self.assertIsNot(table.lean(), table)

    def test_as_few_as_can_be(self):
        """All tables over seven beginnings: none of those that are alike has fewer rows."""
        beginnings = [()] + names_of("ab", 2)
        names = names_of("abz", 2)
        fewest, every = {}, []
        for choice in itertools.product((None, (), (1,), (2,)), repeat=len(beginnings)):
            rows = {beginning: sides for beginning, sides in zip(beginnings, choice) if sides is not None}
            meaning = tuple(tuple(plain_sides(rows, name)) for name in names)
            fewest[meaning] = min(len(rows), fewest.get(meaning, len(rows)))
            every.append((rows, meaning))
        for rows, meaning in every[::3]:
            lean = table_of(rows).lean()
            self.assertEqual(tuple(tuple(lean.sides(name)) for name in names), meaning)
            self.assertEqual(len(lean), fewest[meaning])

    def test_alike_by_all_names(self):
        chance = random.Random(213)
        names = names_of("abz", 5)
        beginnings = [()] + names_of("ab", 5)
        for number in range(80):
            rows = {beginning: chance.choice([[], [1], [2], [2, 1]])
                    for beginning in chance.sample(beginnings, number % 20)}
            table = table_of(rows)
            lean = table.lean()
            self.assertIsNone(table.parted(lean))
            self.assertEqual(lean.lean(), lean)
            for name in names:
                self.assertEqual(lean.sides(name), plain_sides(rows, name))


class EveryPartTest(unittest.TestCase):
    """There are only so many parts, so rows for all of them, or most, count against the row of ()."""

    def table(self, parts, sides, first):
        """A table with these sides for the first so many parts, and with sides for ()."""
        table = Table()
        for number in range(parts):
            table.put((part_at(number),), sides)
        table.put((), first)
        return table

    def test_row_that_is_hidden(self):
        table = self.table(PART_COUNT, [1], [2])
        one = table_of({(): [1]})
        self.assertEqual(table.lean(), one)
        self.assertIsNone(table.parted(one))
        last = (part_at(PART_COUNT - 1),)
        table.drop(last)
        self.assertEqual(table.lean(), table_of({(): [1], last: [2]}))
        self.assertEqual(one.parted(table), (1, last))

    def test_row_that_is_one_too_many(self):
        half = PART_COUNT // 2
        lean = self.table(half, [], [1]).lean()
        self.assertEqual(len(lean), half)
        self.assertIsNone(lean.way((part_at(half - 1),)))
        self.assertEqual(lean.sides((part_at(half),)), [1])


class RefusalsTest(unittest.TestCase):
    def setUp(self):
        self.table = table_of({("a",): [1, 2], ("b", "c"): []})
        self.before = self.table.rows()

    def refused(self, error, call, *things):
        self.assertRaises(error, call, *things)
        self.assertEqual(self.table.rows(), self.before)

    def test_put_beginning(self):
        for number, thing in enumerate(NO_BEGINNINGS):
            with self.subTest(number=number):
                self.refused(BadName, self.table.put, thing, [1])

    def test_put_sides(self):
        for number, thing in enumerate(NO_SIDES):
            with self.subTest(number=number):
                self.refused(BadSides, self.table.put, ("a",), thing)
                self.refused(BadSides, self.table.put, ("z",), thing)
                self.refused(BadSides, self.table.put, (), thing)

    def test_put_beginning_first(self):
        for thing in NO_SIDES:
            self.refused(BadName, self.table.put, None, thing)
            self.refused(BadName, self.table.put, ("a", ""), thing)

    def test_refused_list_is_not_changed(self):
        sides = [1, 2, 1]
        self.refused(BadSides, self.table.put, ("a",), sides)
        self.assertEqual(sides, [1, 2, 1])

    def test_drop(self):
        for number, thing in enumerate(NO_BEGINNINGS):
            with self.subTest(number=number):
                self.refused(BadName, self.table.drop, thing)
        for beginning in ((), ("b",), ("c",), ("a", "b")):
            self.refused(BadName, self.table.drop, beginning)

    def test_way_and_sides(self):
        for number, thing in enumerate(NO_NAMES):
            with self.subTest(number=number):
                self.refused(BadName, self.table.way, thing)
                self.refused(BadName, self.table.sides, thing)


if __name__ == "__main__":
    unittest.main()
