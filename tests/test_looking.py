"""Least places by looks: point 11."""

import random
import unittest

from bendtables.looking import least_by
from tests.making import (
    CountedLook, all_small_tables, all_tables, bending_table, bending_tables, crooks, kinds_of, plain_least, plain_stretches,
    some_stretches, steps_right,
)


class LeastByTest(unittest.TestCase):
    def check(self, table):
        stretches = plain_stretches(table)
        for side in ("first", "last"):
            look = CountedLook(table)
            told = least_by(look, stretches, side)
            self.assertEqual(kinds_of(told), kinds_of(plain_least(table, side)), (table, side))
            self.assertLessEqual(len(look.seen), 10 * len(stretches) + 4 * (stretches[-1][1] + 1))

    def test_told(self):
        table = ((1, 2, 4), (2, 2, 3), (4, 3, 3))
        look = CountedLook(table)
        self.assertEqual(least_by(look, ((0, 2),) * 3, "first"), (0, 0, 1))
        look = CountedLook(table)
        self.assertEqual(least_by(look, ((0, 2),) * 3, "last"), (0, 1, 2))

    def test_one_row_and_one_column(self):
        self.check(((5,),))
        self.check(((3, 1, 2, 1, 3),))
        self.check(((None, 4, 4, None),))
        self.check(((3,), (1,), (2,)))
        self.check((tuple(range(100, 0, -1)),))
        self.check(tuple((k,) for k in range(100)))

    def test_all_small_tables(self):
        for table in all_small_tables():
            if steps_right(table) and not crooks(table):
                self.check(table)

    def test_all_of_three_rows_and_four_columns(self):
        for table in all_tables(3, 4, (None, 0)):
            if steps_right(table) and not crooks(table):
                self.check(table)

    def test_stretches_that_do_not_touch(self):
        self.check(((5, 4, None, None, None), (None, None, None, 1, 2)))
        self.check(((5, None, None), (None, 4, None), (None, None, 3)))
        self.check(((None, None, 1), (None, None, 2)))

    def test_tables_that_bend(self):
        for table in bending_tables(600, 15, 15, 40):
            self.check(table)

    def test_as_many_as_are_handed_in(self):
        chance = random.Random(41)
        for rows in (1, 2, 3, 7, 8, 16, 31, 64, 99, 100):
            for columns in (1, 2, 5, 33, 64, 100):
                full = ((0, columns - 1),) * rows
                for stretches in (full, some_stretches(chance, rows, columns)):
                    for most_slack, most_step in ((0, 0), (1, 0), (2, 9), (10 ** 40, 10 ** 50)):
                        self.check(bending_table(chance, stretches, columns, most_slack, most_step))

    def test_more_than_are_handed_in(self):
        # A way of looking that takes more and more for each column as the rows grow shows itself here.
        chance = random.Random(42)
        for rows, columns in ((300, 300), (40, 2000), (130, 1300), (2000, 10)):
            for most_slack, most_step in ((0, 0), (3, 3), (1, 700)):
                self.check(bending_table(chance, ((0, columns - 1),) * rows, columns, most_slack, most_step))
            self.check(bending_table(chance, some_stretches(chance, rows, columns), columns, 2, 500))

    def test_least_places_that_go_from_corner_to_corner(self):
        for rows, columns in ((100, 100), (10, 100), (100, 10), (31, 100), (64, 65)):
            places = [k * columns // rows for k in range(rows)]
            self.check(tuple(tuple((place - k) ** 2 for k in range(columns)) for place in places))
            self.check(tuple(tuple(abs(place - k) for k in range(columns)) for place in places))

    def test_like_numbers(self):
        self.check(((0,) * 100,) * 100)
        for many in (2, 3, 10, 50):
            self.check(tuple((0,) * many + (None,) * (100 - many) for _ in range(20)))

    def test_the_stretches_are_taken_from_what_is_handed_in(self):
        # Beyond the stretches there may be numbers, but they do not count.
        table = ((0, 9, 9, 9), (0, 9, 9, 8), (0, 9, 9, 7))
        asked = []

        def look(row, column):
            asked.append((row, column))
            return table[row][column]

        self.assertEqual(least_by(look, ((1, 2), (1, 3), (2, 3)), "first"), (1, 3, 3))
        self.assertEqual(len(asked), len(set(asked)))
        self.assertTrue(all(1 <= column <= 3 and (row, column) not in ((0, 3), (2, 1)) for row, column in asked))

    def test_the_same_is_told_again(self):
        for table in bending_tables(30, 9, 9, 43):
            stretches = plain_stretches(table)
            looks = CountedLook(table), CountedLook(table)
            self.assertEqual(least_by(looks[0], stretches, "last"), least_by(looks[1], stretches, "last"))


if __name__ == "__main__":
    unittest.main()
