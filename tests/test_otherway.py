"""The other way: points 25 and 26."""

import random
import unittest

from bendtables.leasts import least_places
from bendtables.otherway import bend_of, greatest_places, negated, turned
from bendtables.powers import power
from bendtables.products import product
from tests.making import (
    all_small_tables, all_tables, any_full_table, bending_tables, copied, full_bending_table, kinds_of, plain_bend,
)


def plain_turned(table):
    return tuple(tuple(row[len(row) - 1 - k] for k in range(len(row))) for row in table)


def plain_negated(table):
    return tuple(tuple(None if number is None else -number for number in row) for row in table)


def plain_greatest(table, side):
    places = []
    for row in table:
        numbers = [number for number in row if number is not None]
        columns = [k for k, number in enumerate(row) if numbers and number == max(numbers)]
        places.append(None if not columns else columns[0] if side == "first" else columns[-1])
    return tuple(places)


class BendOfTest(unittest.TestCase):
    def check(self, table):
        told = bend_of(table)
        self.assertEqual(told, plain_bend(table), table)
        return told

    def test_told(self):
        self.assertEqual(bend_of(((0, 0), (0, -1))), "one")
        self.assertEqual(bend_of(((0, 0), (0, 1))), "other")
        self.assertEqual(bend_of(((0, 1), (2, 3))), "both")
        self.assertEqual(bend_of(((0, 0, 0), (0, 1, 0))), "none")

    def test_one_row_and_one_column(self):
        for table in (((5,),), ((3, -1, 7),), ((3,), (-1,), (7,))):
            self.assertEqual(self.check(table), "both")

    def test_small_tables(self):
        found = {self.check(table) for table in all_small_tables() if not any(None in row for row in table)}
        self.assertEqual(found, {"one", "other", "both", "none"})
        for table in all_tables(2, 3, (0, 1, 2)):
            self.check(table)

    def test_great_tables(self):
        chance = random.Random(801)
        for _ in range(60):
            rows, columns = chance.randint(1, 12), chance.randint(1, 12)
            table = full_bending_table(chance, rows, columns)
            for other in (table, turned(table), negated(table), any_full_table(chance, rows, columns)):
                self.check(other)

    def test_more_than_twelve_rows(self):
        table = tuple(tuple(-i * k for k in range(30)) for i in range(40))
        self.assertEqual((bend_of(table), bend_of(turned(table))), ("one", "other"))


class TurnedTest(unittest.TestCase):
    def test_told(self):
        self.assertEqual(turned(((1, 2, None), (4, None, 6))), ((None, 2, 1), (6, None, 4)))
        self.assertEqual(negated(((1, 0, None), (-4, None, 6))), ((-1, 0, None), (4, None, -6)))

    def test_any_tables(self):
        for table in list(all_small_tables())[::7] + list(bending_tables(60, 12, 12, 802)):
            before = copied(table)
            self.assertEqual(kinds_of(turned(table)), kinds_of(plain_turned(table)))
            self.assertEqual(kinds_of(negated(table)), kinds_of(plain_negated(table)))
            self.assertEqual(turned(turned(table)), table)
            self.assertEqual(negated(negated(table)), table)
            self.assertEqual(table, before)

    def test_what_bends_bends_the_other_way_then(self):
        chance = random.Random(803)
        ways = {"one": "other", "other": "one", "both": "both", "none": "none"}
        for _ in range(80):
            rows, columns = chance.randint(1, 8), chance.randint(1, 8)
            for table in (full_bending_table(chance, rows, columns), any_full_table(chance, rows, columns)):
                self.assertEqual(bend_of(turned(table)), ways[bend_of(table)])
                self.assertEqual(bend_of(negated(table)), ways[bend_of(table)])


class GreatestPlacesTest(unittest.TestCase):
    def test_told(self):
        table = ((1, 3, 3, 0), (None, None, None, None), (None, -5, -7, None), (2, 2, 2, 2))
        self.assertEqual(greatest_places(table, "first"), (1, None, 1, 0))
        self.assertEqual(greatest_places(table, "last"), (2, None, 1, 3))

    def test_any_tables(self):
        chance = random.Random(804)
        tables = list(all_small_tables()) + list(bending_tables(60, 12, 12, 805))
        tables += [any_full_table(chance, chance.randint(1, 12), chance.randint(1, 12)) for _ in range(60)]
        for table in tables:
            for side in ("first", "last"):
                self.assertEqual(kinds_of(greatest_places(table, side)), kinds_of(plain_greatest(table, side)))

    def test_of_what_bends_they_step_left(self):
        chance = random.Random(806)
        for _ in range(80):
            table = full_bending_table(chance, chance.randint(1, 12), chance.randint(1, 12))
            for side in ("first", "last"):
                places = greatest_places(table, side)
                self.assertEqual(list(places), sorted(places, reverse=True))
                self.assertEqual(least_places(turned(table), side), tuple(sorted(least_places(turned(table), side), reverse=True)))


class SignsTest(unittest.TestCase):
    def bent(self, chance, rows, columns, way):
        """A full table that bends the one or the other way."""
        table = full_bending_table(chance, rows, columns)
        if way == "one":
            return table
        return turned(table) if chance.random() < 0.5 else negated(table)

    def check(self, table, way):
        self.assertIn(bend_of(table), (way, "both"))

    def test_products(self):
        chance = random.Random(807)
        for _ in range(60):
            sizes = [chance.randint(1, 7) for _ in range(3)]
            for one in ("one", "other"):
                for other in ("one", "other"):
                    left = self.bent(chance, sizes[0], sizes[1], one)
                    right = self.bent(chance, sizes[1], sizes[2], other)
                    self.check(product(left, right), "one" if one == other else "other")

    def test_powers(self):
        chance = random.Random(808)
        for _ in range(40):
            size = chance.randint(1, 6)
            for many in (1, 2, 3, 4, 5, 10, 11):
                self.check(power(self.bent(chance, size, size, "one"), many), "one")
                self.check(power(self.bent(chance, size, size, "other"), many), "other" if many % 2 else "one")


if __name__ == "__main__":
    unittest.main()
