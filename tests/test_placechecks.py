"""Whether places are the least ones: point 12."""

import itertools
import random
import unittest

from bendtables.placechecks import places_holds
from tests.making import (
    CountedLook, all_small_tables, bending_table, bending_tables, copied, crooks, kinds_of, plain_least, plain_stretches,
    some_stretches, steps_right, things,
)

TABLE = ((1, 1, 4), (2, 1, 3), (4, 2, 2))
FULL = ((0, 2),) * 3


class PlacesHoldsTest(unittest.TestCase):
    def asked(self, table, side, thing):
        """What is told, with the looks counted."""
        stretches = plain_stretches(table)
        look = CountedLook(table)
        told = places_holds(look, stretches, side, thing)
        self.assertLessEqual(len(look.seen), 2 * len(stretches) + 2 * (stretches[-1][1] + 1))
        return told

    def test_told(self):
        self.assertIs(self.asked(TABLE, "first", (0, 1, 1)), True)
        self.assertIs(self.asked(TABLE, "last", (1, 1, 2)), True)
        self.assertIs(self.asked(TABLE, "first", (1, 1, 2)), False)
        self.assertIs(self.asked(TABLE, "last", (0, 1, 1)), False)

    def test_one_row_and_one_column(self):
        self.assertIs(self.asked(((3, 1, 1),), "first", (1,)), True)
        self.assertIs(self.asked(((3, 1, 1),), "first", (2,)), False)
        self.assertIs(self.asked(((3, 1, 1),), "last", (2,)), True)
        self.assertIs(self.asked(((3, 1, 1),), "last", (1,)), False)
        self.assertIs(self.asked(((3,), (1,)), "last", (0, 0)), True)
        self.assertIs(self.asked(((3,), (1,)), "first", (0, 1)), False)

    def test_all_places_of_small_tables(self):
        for table in all_small_tables():
            if steps_right(table) and not crooks(table):
                for side in ("first", "last"):
                    least = plain_least(table, side)
                    for places in itertools.product(range(-1, len(table[0]) + 1), repeat=len(table)):
                        self.assertIs(self.asked(table, side, places), places == least, (table, side, places))

    def test_all_places_of_some_tables(self):
        for table in bending_tables(60, 4, 5, 50):
            for side in ("first", "last"):
                least = plain_least(table, side)
                for places in itertools.product(range(len(table[0])), repeat=len(table)):
                    self.assertIs(self.asked(table, side, places), places == least, (table, side, places))

    def test_one_place_off(self):
        chance = random.Random(51)
        for table in bending_tables(300, 15, 15, 52):
            for side in ("first", "last"):
                least = plain_least(table, side)
                self.assertIs(self.asked(table, side, least), True)
                other = list(least)
                other[chance.randrange(len(other))] += chance.choice((-2, -1, 1, 2))
                self.assertIs(self.asked(table, side, tuple(other)), False)

    def test_as_many_as_are_handed_in(self):
        chance = random.Random(53)
        for rows in (1, 2, 3, 8, 31, 99, 100):
            for columns in (1, 2, 5, 33, 100):
                full = ((0, columns - 1),) * rows
                for stretches in (full, some_stretches(chance, rows, columns)):
                    for most_slack, most_step in ((0, 0), (1, 0), (2, 9), (10 ** 40, 10 ** 50)):
                        table = bending_table(chance, stretches, columns, most_slack, most_step)
                        for side in ("first", "last"):
                            least = plain_least(table, side)
                            self.assertIs(self.asked(table, side, least), True)
                            self.check_wrong_places(chance, table, side, least)

    def check_wrong_places(self, chance, table, side, least):
        stretches = plain_stretches(table)
        columns = stretches[-1][1] + 1
        any_ones = tuple(chance.randrange(columns) for _ in stretches)
        wrong = [any_ones, tuple(sorted(any_ones)), tuple(reversed(least)), (0,) * len(least), (columns - 1,) * len(least)]
        wrong += [tuple(first for first, last in stretches), tuple(last for first, last in stretches)]
        wrong += [least + least[-1:], least[:-1], list(least)]
        # Places that go to and fro would cost many looks if they were looked at.
        wrong.append(tuple(0 if at % 2 else columns - 1 for at in range(len(least))))
        wrong.append(tuple(columns - 1 if at % 2 else 0 for at in range(len(least))))
        for thing in wrong:
            self.assertIs(self.asked(table, side, thing), thing == least)

    def test_to_and_fro_where_the_first_rows_are_right(self):
        table = tuple(tuple(slope * k for k in range(100)) for slope in (1, -1, -2, -3, -4))
        for side in ("first", "last"):
            self.assertIs(self.asked(table, side, (0, 99, 99, 99, 99)), True)
            for places in ((0, 99, 0, 99, 0), (0, 99, 0, 99, 99), (0, 99, 0, 0, 99), (0, 99, 99, 0, 99), (99, 0, 99, 0, 99)):
                self.assertIs(self.asked(table, side, places), False)

    def test_things_of_other_kinds(self):
        for table in (TABLE, ((0,),), ((5, 4),), ((1,), (1,)), ((None, 1, None), (None, 1, 0))):
            for side in ("first", "last"):
                for thing in things():
                    before = kinds_of(copied(thing))
                    self.assertIs(self.asked(table, side, thing), False, thing)
                    self.assertEqual(kinds_of(thing), before)
                least = plain_least(table, side)
                for at in range(len(least)):
                    for thing in things():
                        if thing != least[at] or isinstance(thing, bool):
                            places = least[:at] + (thing,) + least[at + 1:]
                            self.assertIs(self.asked(table, side, places), False, places)

    def test_truths_for_numbers(self):
        self.assertIs(self.asked(((0, 0),), "first", (0,)), True)
        self.assertIs(self.asked(((0, 0),), "first", (False,)), False)
        self.assertIs(self.asked(((0, 0),), "last", (1,)), True)
        self.assertIs(self.asked(((0, 0),), "last", (True,)), False)

    def test_lists_for_tuples(self):
        self.assertIs(self.asked(TABLE, "first", [0, 1, 1]), False)
        self.assertIs(self.asked(TABLE, "first", ([0], [1], [1])), False)
        self.assertIs(self.asked(TABLE, "first", {0: 0, 1: 1, 2: 1}), False)

    def test_beyond_the_stretches(self):
        table = ((None, 5, 5, None), (None, None, 5, 5))
        self.assertIs(self.asked(table, "first", (1, 2)), True)
        for places in ((0, 2), (1, 1), (1, 4), (3, 3), (-3, 2), (-3, -2), (10 ** 39, 10 ** 39), (1, -1), (None, None)):
            self.assertIs(self.asked(table, "first", places), False, places)

    def test_a_place_that_is_least_only_near_the_row_ahead(self):
        # Each is the least of its row near by, but steps left, or misses what is at the far end.
        self.assertIs(self.asked(((9, 5, 9, 1),), "first", (1,)), False)
        self.assertIs(self.asked(((1, 9, 5, 9),), "last", (2,)), False)
        self.assertIs(self.asked(((9, 9, 5), (9, 9, 1)), "first", (1, 2)), False)
        self.assertIs(self.asked(((1, 9, 9), (1, 5, 5)), "last", (0, 1)), False)


if __name__ == "__main__":
    unittest.main()
