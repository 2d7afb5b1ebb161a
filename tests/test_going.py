"""Rows that go: point 23, what is told."""

import random
import unittest

from bendtables.going import stays_of
from tests.making import (
    all_tables, any_full_table, copied, crooks, full_bending_table, kinds_of, most_that_stay, rows_that_bend,
)


def some_full_tables(many, most_rows, most_columns, seed):
    """Full tables with few or many rows that can stay: any ones, and ones that bend but for some rows."""
    chance = random.Random(seed)
    for _ in range(many):
        rows, columns = chance.randint(1, most_rows), chance.randint(1, most_columns)
        table = list(full_bending_table(chance, rows, columns))
        for at in range(rows):
            if chance.random() < 0.4:
                table[at] = chance.choice(table)
        yield tuple(table)
        yield any_full_table(chance, rows, columns)


class StaysOfTest(unittest.TestCase):
    def check_kinds(self, table, told):
        self.assertIs(type(told), tuple)
        stays, levels = told
        for part in (stays, levels):
            self.assertIs(type(part), tuple)
            self.assertEqual({type(number) for number in part}, {int})
        self.assertEqual(len(levels), len(table))
        self.assertEqual(list(stays), sorted(set(stays)))
        self.assertTrue(0 <= stays[0] and stays[-1] < len(table))

    def check(self, table):
        """The rows that stay bend; the levels, by which no more can stay, are below how many stay."""
        told = stays_of(table)
        self.check_kinds(table, told)
        stays, levels = told
        self.assertEqual(crooks(tuple(table[row] for row in stays)), [], table)
        self.assertTrue(all(0 <= level < len(stays) for level in levels), table)
        for lower in range(len(table)):
            for upper in range(lower):
                if levels[upper] == levels[lower]:
                    self.assertNotEqual(crooks((table[upper], table[lower])), [], (table, upper, lower))
        return len(stays)

    def test_told(self):
        self.assertEqual(stays_of(((0, 0), (0, 1), (0, -1))), ((0, 2), (0, 0, 1)))
        self.assertEqual(stays_of(((0, 5), (0, 3), (0, 4))), ((0, 1), (0, 1, 1)))

    def test_all_or_one_stay(self):
        self.assertEqual(stays_of(((1, 4, 16), (1, 0, 4), (16, 9, 1))), ((0, 1, 2), (0, 1, 2)))
        stays, levels = stays_of(((0, 0), (0, 1), (0, 2), (0, 3)))
        self.assertEqual((len(stays), levels), (1, (0, 0, 0, 0)))

    def test_one_row_and_one_column(self):
        self.assertEqual(stays_of(((3, 1, 2),)), ((0,), (0,)))
        self.assertEqual(stays_of(((3,),)), ((0,), (0,)))
        self.assertEqual(stays_of(((3,), (9,), (-5,))), ((0, 1, 2), (0, 1, 2)))

    def test_like_rows_stay_together(self):
        self.assertEqual(stays_of(((1, 9, 2),) * 5), ((0, 1, 2, 3, 4), (0, 1, 2, 3, 4)))

    def test_the_rows_that_stay_need_not_be_neighbours(self):
        table = ((0, 0, 0), (9, 0, 9), (0, 0, -1), (0, 9, 0), (0, 0, -5))
        self.assertEqual(stays_of(table)[0], (0, 2, 4))

    def test_as_many_as_by_all_choices_of_small_tables(self):
        for rows, columns, numbers in ((1, 3, (0, 1)), (4, 1, (0, 1)), (3, 2, (0, 1, 2)), (5, 2, (0, 1)), (3, 3, (0, 1)), (2, 3, (0, 1, 2))):
            for table in all_tables(rows, columns, numbers):
                self.assertEqual(self.check(table), most_that_stay(table), table)

    def test_as_many_as_by_all_choices(self):
        for table in some_full_tables(80, 7, 5, 501):
            self.assertEqual(self.check(table), most_that_stay(table), table)

    def test_twelve_rows_and_columns(self):
        for table in some_full_tables(40, 12, 12, 502):
            self.check(table)
        chance = random.Random(503)
        for rows, columns in ((12, 12), (12, 1), (1, 12), (12, 2)) * 4:
            self.check(any_full_table(chance, rows, columns))
            self.assertEqual(self.check(full_bending_table(chance, rows, columns)), rows)

    def test_told_is_one_of_the_longest_choices(self):
        for table in some_full_tables(30, 6, 4, 504):
            choices = list(rows_that_bend(table))
            most = max(len(rows) for rows in choices)
            self.assertIn(stays_of(table)[0], [rows for rows in choices if len(rows) == most])

    def test_nothing_is_changed_and_the_same_is_told_again(self):
        for table in some_full_tables(20, 6, 4, 505):
            before = copied(table)
            self.assertEqual(kinds_of(stays_of(table)), kinds_of(stays_of(before)))
            self.assertEqual(table, before)


if __name__ == "__main__":
    unittest.main()
