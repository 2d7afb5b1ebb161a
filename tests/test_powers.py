"""Powers and ways: point 16."""

import itertools
import random
import unittest

from bendtables.errors import NoFit
from bendtables.powers import first_way, power
from tests.making import (
    all_tables, all_ways, any_full_table, copied, crooks, kinds_of, plain_product, square_bending_tables, way_sum,
)

GREAT = 10 ** 9


def plain_power(table, many):
    """One entry after the other."""
    total = table
    for _ in range(many - 1):
        total = plain_product(total, table)[0]
    return total


def suffix_way(table, many, one, other):
    """The first way of the least sum, kept whole for each beginning, from the shortest ways on."""
    best = {at: (table[at][other], (at, other)) for at in range(len(table))}
    for _ in range(many - 1):
        best = {
            at: min((table[at][to] + worth, (at, *way)) for to, (worth, way) in best.items()) for at in range(len(table))
        }
    return best[one][1]


class PowerTest(unittest.TestCase):
    def check(self, table, many):
        told = power(table, many)
        self.assertEqual(kinds_of(told), kinds_of(plain_power(table, many)), (table, many))
        return told

    def test_told(self):
        table = ((0, 3), (1, 5))
        self.assertEqual(power(table, 1), table)
        self.assertEqual(power(table, 2), ((0, 3), (1, 4)))
        self.assertEqual(power(table, 3), ((0, 3), (1, 4)))
        self.assertEqual(power(((5, 1), (1, 5)), 3), ((7, 3), (3, 7)))

    def test_it_is_the_least_sum_of_all_ways(self):
        chance = random.Random(160)
        for size in (1, 2, 3):
            for many in (1, 2, 3, 4, 5):
                table = any_full_table(chance, size, size)
                told = power(table, many)
                for one, other in itertools.product(range(size), repeat=2):
                    least = min(way_sum(table, way) for way in all_ways(table, many, one, other))
                    self.assertEqual(told[one][other], least)

    def test_one_row(self):
        for many in (1, 2, 3, 7, 1000, 10 ** 6):
            self.assertEqual(power(((-3,),), many), ((-3 * many,),))

    def test_all_small_tables(self):
        for table in all_tables(2, 2, (-1, 0, 2)):
            for many in range(1, 10):
                self.check(table, many)

    def test_each_number_of_entries(self):
        chance = random.Random(161)
        table = any_full_table(chance, 3, 3)
        total = table
        for many in range(1, 140):
            self.assertEqual(power(table, many), total, many)
            total = plain_product(total, table)[0]

    def test_any_tables(self):
        chance = random.Random(162)
        for _ in range(60):
            size = chance.randint(1, 12)
            self.check(any_full_table(chance, size, size), chance.randint(1, 20))

    def test_a_million(self):
        # Over and over by the cheapest ring, with the way to it and away from it.
        self.assertEqual(power(((5, 1), (1, 5)), 10 ** 6), ((10 ** 6, 10 ** 6 + 4), (10 ** 6 + 4, 10 ** 6)))
        self.assertEqual(power(((5, 1), (1, 5)), 10 ** 6 - 1), ((10 ** 6 + 3, 10 ** 6 - 1), (10 ** 6 - 1, 10 ** 6 + 3)))
        size = 12
        ring = tuple(tuple(0 if to == (at + 1) % size else 1 for to in range(size)) for at in range(size))
        told = power(ring, 10 ** 6)
        steps = 10 ** 6 % size
        for at, to in itertools.product(range(size), repeat=2):
            self.assertEqual(told[at][to], 0 if to == (at + steps) % size else 1)

    def test_sizes_that_do_not_fit(self):
        chance = random.Random(163)
        for rows, columns in itertools.product((1, 2, 3, 12), repeat=2):
            table = any_full_table(chance, rows, columns)
            for many in (1, 2, 10 ** 6):
                if rows != columns:
                    with self.assertRaises(NoFit):
                        power(table, many)
            for many in (1, 2, 40):
                if rows != columns:
                    with self.assertRaises(NoFit):
                        first_way(table, many, 0, 0)

    def test_great_numbers(self):
        table = ((GREAT, GREAT), (-GREAT, GREAT))
        self.assertEqual(power(table, 10 ** 6), ((0, 2 * GREAT), (0, 0)))
        self.assertEqual(power(((-GREAT,) * 12,) * 12, 10 ** 6), ((-GREAT * 10 ** 6,) * 12,) * 12)

    def test_what_was_told_is_handed_in_again(self):
        table = ((1, 10 ** 9), (7, -10 ** 9))
        told = power(table, 10 ** 6)
        self.assertEqual(power(told, 10 ** 6), power(power(told, 1000), 1000))
        self.assertEqual(power(power(table, 7), 5), power(table, 35))

    def test_where_the_table_bends_its_powers_bend(self):
        for table in square_bending_tables(60, 6, 164):
            for many in (1, 2, 3, 10, 999, 10 ** 6):
                self.assertEqual(crooks(power(table, many)), [])

    def test_nothing_is_changed(self):
        table = ((1, 2), (3, 4))
        before = copied(table)
        self.assertEqual(power(table, 5), power(table, 5))
        self.assertEqual(first_way(table, 5, 0, 1), first_way(table, 5, 0, 1))
        self.assertEqual(table, before)


class FirstWayTest(unittest.TestCase):
    def check(self, table, many, one, other):
        told = first_way(table, many, one, other)
        self.assertEqual(kinds_of(told), kinds_of(suffix_way(table, many, one, other)), (table, many, one, other))
        return told

    def test_told(self):
        table = ((5, 1, 9), (9, 5, 1), (1, 9, 5))
        self.assertEqual(first_way(table, 3, 0, 0), (0, 1, 2, 0))
        self.assertEqual(first_way(table, 2, 0, 0), (0, 0, 0))
        self.assertEqual(first_way(table, 2, 0, 1), (0, 0, 1))
        self.assertEqual(first_way(table, 4, 2, 2), (2, 0, 0, 1, 2))

    def test_one_step(self):
        table = ((5, 1), (9, 5))
        for one, other in itertools.product(range(2), repeat=2):
            self.assertEqual(first_way(table, 1, one, other), (one, other))

    def test_one_row(self):
        for many in (1, 2, 3, 40):
            self.assertEqual(first_way(((7,),), many, 0, 0), (0,) * (many + 1))

    def test_the_first_of_several(self):
        zeros = ((0,) * 12,) * 12
        self.assertEqual(first_way(zeros, 40, 11, 11), (11,) + (0,) * 39 + (11,))
        self.assertEqual(first_way(zeros, 2, 3, 0), (3, 0, 0))
        # The first by the number that comes earliest, though each later one is greater.
        table = ((9, 0, 0), (9, 9, 0), (0, 9, 9))
        self.assertEqual(first_way(table, 2, 0, 2), (0, 1, 2))
        table = ((9, 0, 0), (9, 9, 0), (0, 0, 9))
        self.assertEqual(first_way(table, 4, 0, 1), (0, 1, 2, 0, 1))

    def test_it_is_the_first_of_all_ways(self):
        chance = random.Random(165)
        for _ in range(120):
            size, many = chance.randint(1, 3), chance.randint(1, 5)
            table = any_full_table(chance, size, size)
            for one, other in itertools.product(range(size), repeat=2):
                ways = list(all_ways(table, many, one, other))
                least = min(way_sum(table, way) for way in ways)
                first = [way for way in ways if way_sum(table, way) == least][0]
                self.assertEqual(self.check(table, many, one, other), first)

    def test_any_tables(self):
        chance = random.Random(166)
        for _ in range(100):
            size, many = chance.randint(1, 12), chance.randint(1, 40)
            table = any_full_table(chance, size, size)
            one, other = chance.randrange(size), chance.randrange(size)
            told = self.check(table, many, one, other)
            self.assertEqual(len(told), many + 1)
            self.assertEqual(way_sum(table, told), power(table, many)[one][other])

    def test_forty_steps(self):
        chance = random.Random(167)
        for most in (0, 1, 3):
            table = tuple(tuple(chance.randint(0, most) for _ in range(12)) for _ in range(12))
            for one, other in ((0, 0), (0, 11), (11, 0), (5, 6)):
                self.check(table, 40, one, other)

    def test_great_numbers(self):
        table = ((10 ** 60, -10 ** 60), (10 ** 60, 10 ** 60))
        self.assertEqual(first_way(table, 3, 0, 0), (0, 0, 1, 0))
        self.check(power(table, 10 ** 6), 40, 1, 0)


if __name__ == "__main__":
    unittest.main()
