"""Least places of any table: point 10."""

import unittest

from bendtables.leasts import least_places
from bendtables.rules import table_by
from tests.making import all_small_tables, bending_tables, crooks, kinds_of, plain_least


class LeastPlacesTest(unittest.TestCase):
    def test_told(self):
        table = ((3, 1, 1, 2), (None, 5, None, 5), (None, None, None, None), (0, 0, 0, 0), (None, -1, -2, None))
        self.assertEqual(least_places(table, "first"), (1, 1, None, 0, 2))
        self.assertEqual(least_places(table, "last"), (2, 3, None, 3, 2))

    def test_one_row_and_one_column(self):
        self.assertEqual(least_places(((5,),), "first"), (0,))
        self.assertEqual(least_places(((None,),), "last"), (None,))
        self.assertEqual(least_places(((2,), (None,), (1,)), "last"), (0, None, 0))
        self.assertEqual(least_places(((2, 1, None, 1),), "first"), (1,))
        self.assertEqual(least_places(((2, 1, None, 1),), "last"), (3,))

    def test_great_numbers(self):
        table = ((10 ** 9, -10 ** 9, 10 ** 40, -10 ** 9),)
        self.assertEqual(least_places(table, "first"), (1,))
        self.assertEqual(least_places(table, "last"), (3,))

    def test_all_small_tables(self):
        for table in all_small_tables():
            for side in ("first", "last"):
                self.assertEqual(kinds_of(least_places(table, side)), kinds_of(plain_least(table, side)))

    def test_of_a_table_that_bends_none_is_less_than_one_ahead(self):
        several = [table for table in all_small_tables() if not crooks(table)] + list(bending_tables(200, 9, 9, 30))
        for table in several:
            for side in ("first", "last"):
                places = [place for place in least_places(table, side) if place is not None]
                self.assertEqual(places, sorted(places), table)

    def test_tables_of_rules(self):
        table = table_by(("apart", tuple(range(100)), tuple(range(100))))
        self.assertEqual(least_places(table, "first"), tuple(range(100)))


if __name__ == "__main__":
    unittest.main()
