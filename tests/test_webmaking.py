"""Webs made of tables: point 21."""

import random
import unittest

from bendtables.errors import BendError, Crooked
from bendtables.webmaking import web_of
from bendtables.webs import is_web, web_table
from tests.making import (
    CROOKED_TABLES, all_tables, any_full_table, bending_table, copied, crooks, first_slack_below, full_bending_table,
    kinds_of, web_ways,
)

GREAT = 10 ** 9


class WebOfTest(unittest.TestCase):
    def check(self, table):
        """A web is made where the table bends, else it is refused with the first place."""
        place = first_slack_below(table)
        self.assertIs(place is None, not crooks(table))
        if place is None:
            web = web_of(table)
            self.assertIs(is_web(web), True, web)
            self.assertEqual((len(web[0]), len(web[3])), (len(table), len(table[0])))
            self.assertEqual(kinds_of(web_table(web)), kinds_of(table))
        else:
            with self.assertRaises(Crooked) as caught:
                web_of(table)
            self.assertEqual(kinds_of((caught.exception.row, caught.exception.column)), kinds_of(place), table)
            self.assertIsInstance(caught.exception, BendError)

    def test_told(self):
        table = ((1, 4, 16), (1, 0, 4), (16, 9, 1))
        self.check(table)
        web = web_of(table)
        for row in range(3):
            for column in range(3):
                self.assertEqual(min(length for way, length in web_ways(web, row, column)), table[row][column])

    def test_one_row_one_column_one_place(self):
        for table in (((7,),), ((-GREAT, GREAT, 0),), ((3,), (-4,), (5,)), ((0,) * 12,), ((1,),) * 12):
            self.check(table)

    def test_refused(self):
        for table, place in CROOKED_TABLES:
            with self.assertRaises(Crooked) as caught:
                web_of(table)
            self.assertEqual((caught.exception.row, caught.exception.column), place)

    def test_all_small_tables(self):
        for rows, columns, numbers in ((1, 3, (0, 1)), (3, 1, (0, 1)), (2, 2, (-1, 0, 1, 2)), (2, 3, (0, 1, 2)), (3, 3, (0, 1))):
            for table in all_tables(rows, columns, numbers):
                self.check(table)

    def test_any_tables(self):
        chance = random.Random(301)
        for _ in range(200):
            self.check(any_full_table(chance, chance.randint(1, 5), chance.randint(1, 5)))

    def test_tables_that_bend(self):
        chance = random.Random(302)
        for _ in range(200):
            self.check(full_bending_table(chance, chance.randint(1, 8), chance.randint(1, 8)))

    def test_twelve_rows_and_columns(self):
        chance = random.Random(303)
        for rows, columns in ((12, 12), (1, 12), (12, 1), (12, 2), (2, 12), (11, 12)) * 5:
            table = full_bending_table(chance, rows, columns)
            self.check(table)
            lines = [list(row) for row in table]
            lines[chance.randrange(rows)][chance.randrange(columns)] += chance.choice((-1, 1)) * 10 ** 41
            self.check(tuple(tuple(line) for line in lines))

    def test_the_table_of_a_web_again(self):
        chance = random.Random(304)
        for _ in range(30):
            table = bending_table(chance, ((0, 5),) * 6, 6, 10 ** 9, 10 ** 9)
            self.assertEqual(web_of(web_table(web_of(table))), web_of(table))

    def test_nothing_is_changed_and_the_same_is_told_again(self):
        for table in (((1, 4, 16), (1, 0, 4), (16, 9, 1)), ((0, 0), (0, 1))):
            before = copied(table)
            try:
                self.assertEqual(web_of(table), web_of(table))
            except Crooked:
                pass
            self.assertEqual(table, before)


if __name__ == "__main__":
    unittest.main()
