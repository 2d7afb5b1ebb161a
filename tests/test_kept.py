"""What is kept: point 22."""

import random
import unittest

from bendtables.errors import BendError, Crooked, NoFit, NoPlace, TooMany
from bendtables.kept import Kept
from tests.making import (
    CROOKED_TABLES, all_tables, any_full_table, crooks, first_slack_below, full_bending_table, kinds_of, plain_least,
    plain_slacks, things,
)

SQUARE = ((1, 4, 16), (1, 0, 4), (16, 9, 1))
FLAT = ((0, 0), (0, 0))


def with_row(table, at, row):
    return table[:at] + (row,) + table[at:]


def with_column(table, at, column):
    return tuple(row[:at] + (number,) + row[at:] for row, number in zip(table, column))


def without_row(table, at):
    return table[:at] + table[at + 1:]


def without_column(table, at):
    return tuple(row[:at] + row[at + 1:] for row in table)


def told_of(kept):
    return (kept.table(), kept.slacks(), kept.least(), kept.gone())


class KeptCase(unittest.TestCase):
    def check(self, kept, table, gone):
        """All that is told is what is made at once of the table."""
        right = (table, plain_slacks(table), plain_least(table, "first"), gone)
        self.assertEqual(kinds_of(told_of(kept)), kinds_of(right))
        self.assertEqual(told_of(kept), right)

    def refused(self, kind, kept, deed, *given):
        """The refusal of a deed, behind which all is as it was."""
        before = kinds_of(told_of(kept))
        with self.assertRaises(BendError) as caught:
            deed(*given)
        self.assertIs(type(caught.exception), kind)
        self.assertEqual(kinds_of(told_of(kept)), before)
        return caught.exception

    def crooked_at(self, kept, deed, *given):
        refusal = self.refused(Crooked, kept, deed, *given)
        return (refusal.row, refusal.column)


class BeginningTest(KeptCase):
    def test_told(self):
        self.check(Kept(SQUARE), SQUARE, 3)
        kept = Kept(SQUARE)
        self.assertEqual(told_of(kept), (SQUARE, ((4, 8), (6, 12)), (0, 1, 2), 3))

    def test_one_row_one_column_twelve(self):
        for table in (((5,),), ((3, 1, 1, 2),), ((3,), (1,), (1,)), ((0,) * 12,) * 12, ((1, 0),) * 12, ((0,) * 12,)):
            self.check(Kept(table), table, len(table))

    def test_tables_of_more_than_twelve(self):
        chance = random.Random(401)
        for rows, columns in ((13, 2), (2, 13), (40, 40)):
            table = full_bending_table(chance, rows, columns)
            self.check(Kept(table), table, rows)

    def test_crooked(self):
        for table, place in CROOKED_TABLES:
            with self.assertRaises(Crooked) as caught:
                Kept(table)
            self.assertEqual((caught.exception.row, caught.exception.column), place)

    def test_all_small_tables(self):
        for rows, columns, numbers in ((1, 3, (0, 1)), (3, 1, (0, 1)), (2, 2, (-1, 0, 1)), (2, 3, (0, 1)), (3, 3, (0, 1))):
            for table in all_tables(rows, columns, numbers):
                place = first_slack_below(table)
                if place is None:
                    self.check(Kept(table), table, rows)
                else:
                    with self.assertRaises(Crooked) as caught:
                        Kept(table)
                    self.assertEqual((caught.exception.row, caught.exception.column), place)


class PutRowTest(KeptCase):
    def test_ahead_of_all_between_and_behind_all(self):
        for at, row in ((0, (4, 9, 25)), (1, (0, 1, 9)), (2, (9, 4, 0)), (3, (36, 25, 9))):
            kept = Kept(SQUARE)
            self.assertIsNone(kept.put_row(at, row))
            self.check(kept, with_row(SQUARE, at, row), 4)

    def test_beside_the_only_row(self):
        for at in (0, 1):
            kept = Kept(((3, 1, 1),))
            kept.put_row(at, (5, 3, 3))
            self.check(kept, with_row(((3, 1, 1),), at, (5, 3, 3)), 2)

    def test_twelve_and_a_thirteenth(self):
        kept = Kept(((0, 0),))
        for many in range(2, 13):
            kept.put_row(many - 1, (many, many))
            self.assertEqual((len(kept.table()), kept.gone()), (many, many))
        self.refused(TooMany, kept, kept.put_row, 12, (0, 0))
        self.refused(TooMany, kept, kept.put_row, 0, (0, 0))
        kept.take_row(4)
        kept.put_row(11, (0, 0))
        self.assertEqual((len(kept.table()), kept.gone()), (12, 13))

    def test_more_than_twelve_stand(self):
        kept = Kept(((0, 0),) * 15)
        self.refused(TooMany, kept, kept.put_row, 15, (0, 0))
        kept.put_column(2, (0,) * 15)
        self.check(kept, ((0, 0, 0),) * 15, 15)

    def test_no_place(self):
        for at in (-1, 4, 12, 10 ** 39, -10 ** 39):
            kept = Kept(SQUARE)
            self.refused(NoPlace, kept, kept.put_row, at, (0, 1, 9))

    def test_another_length(self):
        kept = Kept(SQUARE)
        for row in ((1,), (1, 2), (1, 2, 3, 4)):
            for at in range(4):
                self.refused(NoFit, kept, kept.put_row, at, row)

    def test_crooked(self):
        kept = Kept(FLAT)
        self.assertEqual(self.crooked_at(kept, kept.put_row, 2, (0, 1)), (1, 0))
        self.assertEqual(self.crooked_at(kept, kept.put_row, 0, (1, 0)), (0, 0))
        # Between like rows what would bend with the one is crooked with the other.
        self.assertEqual(self.crooked_at(kept, kept.put_row, 1, (1, 0)), (1, 0))
        self.assertEqual(self.crooked_at(kept, kept.put_row, 1, (0, 1)), (0, 0))
        kept = Kept(((0, 0, 0),) * 2)
        self.assertEqual(self.crooked_at(kept, kept.put_row, 1, (0, 0, 1)), (0, 1))
        self.assertEqual(self.crooked_at(kept, kept.put_row, 1, (1, 0, 1)), (0, 1))
        self.assertEqual(self.crooked_at(kept, kept.put_row, 1, (0, 1, 0)), (0, 0))
        self.assertEqual(self.crooked_at(kept, kept.put_row, 2, (1, 0, 1)), (1, 1))

    def test_several_refusals(self):
        kept = Kept(((0, 0),) * 12)
        self.refused(NoPlace, kept, kept.put_row, 13, (0, 1, 2))
        self.refused(NoPlace, kept, kept.put_row, -1, (0, 1))
        self.refused(NoFit, kept, kept.put_row, 12, (0, 1, 2))
        self.refused(TooMany, kept, kept.put_row, 12, (0, 1))
        kept = Kept(FLAT)
        self.refused(NoPlace, kept, kept.put_row, 3, (0, 1))


class PutColumnTest(KeptCase):
    def test_ahead_of_all_between_and_behind_all(self):
        for at, column in ((0, (0, 4, 25)), (1, (2, 0, 12)), (2, (9, 1, 4)), (3, (36, 16, 1))):
            kept = Kept(SQUARE)
            self.assertIsNone(kept.put_column(at, column))
            self.check(kept, with_column(SQUARE, at, column), 3)

    def test_beside_the_only_column(self):
        for at in (0, 1):
            for column in ((5, 3, 3), (5, 1, 1)):
                kept = Kept(((5,), (3,), (3,)))
                table = with_column(((5,), (3,), (3,)), at, column)
                if crooks(table):
                    self.refused(Crooked, kept, kept.put_column, at, column)
                else:
                    kept.put_column(at, column)
                    self.check(kept, table, 3)

    def test_ties_with_the_least(self):
        for at in range(4):
            kept = Kept(((1, 0, 1),))
            for number in (0, 1, -1, 0):
                before = kept.table()
                kept.put_column(at, (number,))
                self.check(kept, with_column(before, at, (number,)), 1)

    def test_twelve_and_a_thirteenth(self):
        kept = Kept(((0,), (0,)))
        for many in range(2, 13):
            kept.put_column(0, (many, many))
            self.check(kept, kept.table(), 2)
        self.refused(TooMany, kept, kept.put_column, 12, (0, 0))
        self.refused(TooMany, kept, kept.put_column, 0, (0, 0))
        kept.take_column(0)
        kept.put_column(11, (0, 0))
        self.assertEqual(len(kept.table()[0]), 12)

    def test_more_than_twelve_stand(self):
        kept = Kept(((0,) * 15,))
        self.refused(TooMany, kept, kept.put_column, 15, (0,))
        kept.put_row(0, (0,) * 15)
        self.check(kept, ((0,) * 15,) * 2, 2)

    def test_no_place(self):
        for at in (-1, 4, 12, 10 ** 39, -10 ** 39):
            kept = Kept(SQUARE)
            self.refused(NoPlace, kept, kept.put_column, at, (9, 1, 4))

    def test_another_length(self):
        kept = Kept(SQUARE[:2])
        for column in ((1,), (1, 2, 3), (1, 2, 3, 4)):
            for at in range(4):
                self.refused(NoFit, kept, kept.put_column, at, column)

    def test_crooked(self):
        kept = Kept(FLAT)
        self.assertEqual(self.crooked_at(kept, kept.put_column, 2, (0, 1)), (0, 1))
        self.assertEqual(self.crooked_at(kept, kept.put_column, 0, (1, 0)), (0, 0))
        self.assertEqual(self.crooked_at(kept, kept.put_column, 1, (1, 0)), (0, 1))
        self.assertEqual(self.crooked_at(kept, kept.put_column, 1, (0, 1)), (0, 0))
        kept = Kept(((0, 0),) * 3)
        self.assertEqual(self.crooked_at(kept, kept.put_column, 1, (0, 0, 1)), (1, 0))
        # The first place is by rows, though here it lies behind the column that is put, and then ahead.
        self.assertEqual(self.crooked_at(kept, kept.put_column, 1, (1, 0, 1)), (0, 1))
        self.assertEqual(self.crooked_at(kept, kept.put_column, 1, (0, 1, 0)), (0, 0))

    def test_several_refusals(self):
        kept = Kept(((0,) * 12,) * 2)
        self.refused(NoPlace, kept, kept.put_column, 13, (0, 1, 2))
        self.refused(NoPlace, kept, kept.put_column, -1, (0, 1))
        self.refused(NoFit, kept, kept.put_column, 12, (0, 1, 2))
        self.refused(TooMany, kept, kept.put_column, 12, (0, 1))
        kept = Kept(FLAT)
        self.refused(NoPlace, kept, kept.put_column, 3, (0, 1))


class TakeTest(KeptCase):
    def test_each_row(self):
        for at in range(3):
            kept = Kept(SQUARE)
            self.assertIsNone(kept.take_row(at))
            self.check(kept, without_row(SQUARE, at), 3)

    def test_each_column(self):
        for at in range(3):
            kept = Kept(SQUARE)
            self.assertIsNone(kept.take_column(at))
            self.check(kept, without_column(SQUARE, at), 4)

    def test_rows_whose_least_place_is_taken(self):
        table = ((0, 0, 5, 5), (1, 0, 5, 5), (7, 5, 2, 2), (9, 7, 4, 3))
        self.assertEqual((crooks(table), plain_least(table, "first")), ([], (0, 1, 2, 3)))
        for table, at, many in (
            (((0, 0, 0), (0, 0, 0), (0, 0, 0)), 0, 3), (((0, 0, 0), (0, 0, 0), (0, 0, 0)), 1, 0), (table, 3, 1),
            (((0, 1, 2), (0, 1, 2), (5, 4, 4)), 0, 2), (((0, 1, 2), (0, 1, 2), (5, 4, 4)), 1, 1), (((0, 1, 2),), 2, 0),
        ):
            kept = Kept(table)
            kept.take_column(at)
            self.check(kept, without_column(table, at), len(table) + many)

    def test_the_only_one(self):
        kept = Kept(((1, 2),))
        self.refused(NoFit, kept, kept.take_row, 0)
        kept.take_column(0)
        self.refused(NoFit, kept, kept.take_column, 0)
        self.refused(NoFit, kept, kept.take_row, 0)
        self.check(kept, ((2,),), 2)

    def test_no_place(self):
        for at in (-1, 3, 10 ** 39):
            kept = Kept(SQUARE)
            self.refused(NoPlace, kept, kept.take_row, at)
            self.refused(NoPlace, kept, kept.take_column, at)

    def test_no_place_goes_ahead_of_the_only_one(self):
        kept = Kept(((1,),))
        for at in (-1, 1, 2, None, True, False, "0"):
            self.refused(NoPlace, kept, kept.take_row, at)
            self.refused(NoPlace, kept, kept.take_column, at)


class AnythingTest(KeptCase):
    def test_places_of_anything(self):
        kept = Kept(((0, 0, 0), (0, 0, 0)))
        for thing in things():
            if type(thing) is int and 0 <= thing <= 2:
                continue
            before = kinds_of(thing)
            self.refused(NoPlace, kept, kept.put_row, thing, (0, 0, 0))
            self.refused(NoPlace, kept, kept.put_column, thing, (0, 0))
            self.refused(NoPlace, kept, kept.take_row, thing)
            self.refused(NoPlace, kept, kept.take_column, thing)
            self.assertEqual(kinds_of(thing), before)

    def test_truths_are_no_places(self):
        kept = Kept(FLAT)
        for at in (True, False):
            self.refused(NoPlace, kept, kept.put_row, at, (0, 0))
            self.refused(NoPlace, kept, kept.put_column, at, (0, 0))
            self.refused(NoPlace, kept, kept.take_row, at)
            self.refused(NoPlace, kept, kept.take_column, at)


class ByTurnsTest(KeptCase):
    def a_line(self, chance, table, at):
        """A row that may be put: most often between its neighbours, sometimes any."""
        columns = len(table[0])
        if chance.random() < 0.3:
            return any_full_table(chance, 1, columns)[0]
        near = table[min(at, len(table) - 1)]
        other = table[max(min(at, len(table)) - 1, 0)]
        middle = [(one + two) // 2 for one, two in zip(near, other)]
        return tuple(number + chance.choice((0, 0, 0, 1, -1)) for number in middle)

    def one_deed(self, chance, table, gone):
        """A deed by its name, what is given, and the table and the rows gone through behind it, or the refusal."""
        kind = chance.choice(("put_row", "put_column", "put_row", "put_column", "take_row", "take_column"))
        rows, columns = len(table), len(table[0])
        many = rows if kind.endswith("row") else columns
        at = chance.randint(-1, many + 1) if chance.random() < 0.1 else chance.randrange(many + kind.startswith("put"))
        if kind == "take_row":
            refusal = NoPlace if not 0 <= at < rows else NoFit if rows == 1 else None
            return kind, (at,), without_row(table, at) if refusal is None else None, gone, refusal
        if kind == "take_column":
            refusal = NoPlace if not 0 <= at < columns else NoFit if columns == 1 else None
            more = plain_least(table, "first").count(at)
            return kind, (at,), without_column(table, at) if refusal is None else None, gone + more, refusal
        over = tuple(zip(*table))
        line = self.a_line(chance, table if kind == "put_row" else over, max(at, 0))
        if chance.random() < 0.05:
            line += (1,)
        refusal = NoPlace if not 0 <= at <= many else None
        refusal = refusal or (NoFit if len(line) != (columns if kind == "put_row" else rows) else None)
        refusal = refusal or (TooMany if many >= 12 else None)
        if refusal is not None:
            return kind, (at, line), None, gone, refusal
        later = with_row(table, at, line) if kind == "put_row" else with_column(table, at, line)
        return kind, (at, line), later, gone + (kind == "put_row"), Crooked if crooks(later) else None

    def step(self, chance, kept, table, gone):
        kind, given, later, gone_later, refusal = self.one_deed(chance, table, gone)
        if refusal is None:
            self.assertIsNone(getattr(kept, kind)(*given))
            self.check(kept, later, gone_later)
            return later, gone_later
        told = self.refused(refusal, kept, getattr(kept, kind), *given)
        if refusal is Crooked:
            self.assertEqual(kinds_of((told.row, told.column)), kinds_of(first_slack_below(later)))
        self.check(kept, table, gone)
        return table, gone

    def test_many_deeds_of_two_by_turns(self):
        chance = random.Random(402)
        for _ in range(25):
            tables = [full_bending_table(chance, chance.randint(1, 12), chance.randint(1, 12)) for _ in range(2)]
            kepts = [Kept(table) for table in tables]
            gones = [len(table) for table in tables]
            for _ in range(60):
                at = chance.randrange(2)
                tables[at], gones[at] = self.step(chance, kepts[at], tables[at], gones[at])
                self.check(kepts[1 - at], tables[1 - at], gones[1 - at])

    def test_nothing_handed_in_is_changed(self):
        table = ((1, 4, 16), (1, 0, 4), (16, 9, 1))
        row, column = (0, 1, 9), (9, 4, 1, 4)
        kept = Kept(table)
        kept.put_row(1, row)
        kept.put_column(2, column)
        kept.take_row(0)
        kept.take_column(0)
        self.assertEqual(table, SQUARE)
        self.assertEqual((row, column), ((0, 1, 9), (9, 4, 1, 4)))
        self.check(kept, ((1, 4, 9), (0, 1, 4), (9, 4, 1)), 5)


if __name__ == "__main__":
    unittest.main()
