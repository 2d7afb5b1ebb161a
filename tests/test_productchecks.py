"""Whether products and ways hold: points 15 and 16, and the interface."""

import itertools
import random
import unittest

from bendtables.productchecks import product_holds, way_holds
from tests.making import (
    all_tables, all_ways, altered, any_full_table, copied, kinds_of, plain_product, things, way_sum,
)

GREAT = 10 ** 9


class ProductHoldsTest(unittest.TestCase):
    def test_told(self):
        one, other = ((0, 3), (5, 1)), ((1, 7), (2, 2))
        self.assertIs(product_holds(one, other, (((1, 5), (3, 3)), ((0, 1), (1, 1)))), True)
        self.assertIs(product_holds(one, other, (((1, 5), (3, 4)), ((0, 1), (1, 1)))), False)
        self.assertIs(product_holds(one, other, (((1, 5), (3, 3)), ((0, 1), (0, 1)))), False)
        self.assertIs(product_holds(one, other, (((0, 1), (1, 1)), ((1, 5), (3, 3)))), False)

    def test_only_the_first_mid_is_let_by(self):
        one, other = ((0, 0),), ((0,), (0,))
        self.assertIs(product_holds(one, other, (((0,),), ((0,),))), True)
        self.assertIs(product_holds(one, other, (((0,),), ((1,),))), False)

    def test_all_that_small_tables_could_be(self):
        for one in all_tables(1, 2, (0, 1)):
            for other in all_tables(2, 2, (0, 1)):
                right = plain_product(one, other)
                for sums in all_tables(1, 2, (-1, 0, 1, 2)):
                    for firsts in all_tables(1, 2, (-1, 0, 1, 2)):
                        self.assertIs(product_holds(one, other, (sums, firsts)), (sums, firsts) == right)

    def test_any_tables(self):
        chance = random.Random(170)
        for _ in range(60):
            rows, between, columns = (chance.randint(1, 12) for _ in range(3))
            one, other = any_full_table(chance, rows, between), any_full_table(chance, between, columns)
            self.assertIs(product_holds(one, other, plain_product(one, other)), True)

    def test_one_part_altered(self):
        for one, other in ((((0,),), ((0,),)), (((1,),), ((0,),)), (((0, 3), (5, 1)), ((1, 7), (2, 2))), (((0, 0),), ((1,), (0,)))):
            for thing in altered(plain_product(one, other)):
                self.assertIs(product_holds(one, other, thing), False, thing)

    def test_things_of_other_kinds(self):
        for one, other in ((((0,),), ((0,),)), (((1, 2),), ((3,), (4,)))):
            for thing in things():
                before = kinds_of(copied(thing))
                self.assertIs(product_holds(one, other, thing), False, thing)
                self.assertIs(product_holds(one, other, (thing, thing)), False, thing)
                self.assertEqual(kinds_of(thing), before)

    def test_truths_for_numbers(self):
        one, other = ((1, 0),), ((0,), (0,))
        self.assertIs(product_holds(one, other, (((0,),), ((1,),))), True)
        self.assertIs(product_holds(one, other, (((False,),), ((1,),))), False)
        self.assertIs(product_holds(one, other, (((0,),), ((True,),))), False)


class WayHoldsTest(unittest.TestCase):
    def test_told(self):
        table = ((5, 1, 9), (9, 5, 1), (1, 9, 5))
        self.assertIs(way_holds(table, 3, 0, 0, (0, 1, 2, 0)), True)
        self.assertIs(way_holds(table, 3, 0, 0, (0, 0, 0, 0)), False)
        self.assertIs(way_holds(table, 1, 0, 2, (0, 2)), True)
        self.assertIs(way_holds(table, 1, 0, 2, (0, 1, 2)), False)

    def test_any_way_of_the_least_sum_is_let_by(self):
        zeros = ((0,) * 3,) * 3
        for way in all_ways(zeros, 3, 1, 2):
            self.assertIs(way_holds(zeros, 3, 1, 2, way), True)

    def test_all_ways_of_some_tables(self):
        chance = random.Random(171)
        for _ in range(60):
            size, many = chance.randint(1, 3), chance.randint(1, 4)
            table = any_full_table(chance, size, size)
            for one, other in itertools.product(range(size), repeat=2):
                least = min(way_sum(table, way) for way in all_ways(table, many, one, other))
                for thing in itertools.product(range(size), repeat=many + 1):
                    right = thing[0] == one and thing[-1] == other and way_sum(table, thing) == least
                    self.assertIs(way_holds(table, many, one, other, thing), right, (table, thing))

    def test_other_ends(self):
        # The sum is the least one, and yet it is no way from the one to the other.
        zeros = ((0,) * 3,) * 3
        for thing in ((0, 1, 2), (1, 1, 1), (2, 1, 0), (0, 1, 1)):
            self.assertIs(way_holds(zeros, 2, 1, 2, thing), False, thing)
        self.assertIs(way_holds(zeros, 2, 1, 2, (1, 0, 2)), True)

    def test_other_lengths(self):
        zeros = ((0, 0), (0, 0))
        for many in range(1, 6):
            for length in range(8):
                self.assertIs(way_holds(zeros, many, 0, 0, (0,) * length), length == many + 1)

    def test_numbers_that_are_no_rows(self):
        zeros = ((0, 0), (0, 0))
        for number in (-2, -1, 2, 3, 10 ** 39, -10 ** 39):
            self.assertIs(way_holds(zeros, 2, 0, 0, (0, number, 0)), False, number)
        self.assertIs(way_holds(zeros, 2, 0, 1, (0, 0, -1)), False)
        self.assertIs(way_holds(zeros, 2, 0, 1, (-2, 0, 1)), False)

    def test_forty_steps_and_more(self):
        table = tuple(tuple((at - to) ** 2 for to in range(12)) for at in range(12))
        self.assertIs(way_holds(table, 40, 0, 11, tuple([0] * 29 + list(range(12)))), True)
        self.assertIs(way_holds(table, 40, 0, 11, tuple(list(range(12)) + [11] * 29)), True)
        self.assertIs(way_holds(table, 40, 0, 11, tuple([0] * 30 + list(range(1, 10)) + [11, 11])), False)
        self.assertIs(way_holds(((1,),), 10 ** 6, 0, 0, (0,) * 3999), False)
        self.assertIs(way_holds(((1,),), 3998, 0, 0, (0,) * 3999), True)

    def test_great_numbers(self):
        table = ((GREAT, -GREAT), (-GREAT, GREAT))
        self.assertIs(way_holds(table, 2, 0, 0, (0, 1, 0)), True)
        table = ((10 ** 60, 10 ** 60 + 1), (10 ** 60, 10 ** 60))
        self.assertIs(way_holds(table, 2, 0, 0, (0, 0, 0)), True)
        self.assertIs(way_holds(table, 2, 0, 0, (0, 1, 0)), False)

    def test_one_part_altered(self):
        # No two ways here have one sum, so that nothing else can hold.
        table = ((1, 20, 300), (4000, 50000, 600000), (7 * 10 ** 6, 8 * 10 ** 7, 9 * 10 ** 8))
        for many, one, other, way in ((1, 0, 1, (0, 1)), (2, 1, 0, (1, 0, 0)), (4, 0, 1, (0, 0, 0, 0, 1)), (3, 1, 2, (1, 0, 0, 2))):
            self.assertIs(way_holds(table, many, one, other, way), True)
            for thing in altered(way):
                self.assertIs(way_holds(table, many, one, other, thing), False, thing)

    def test_things_of_other_kinds(self):
        for table, many in ((((0,),), 1), (((0, 0), (0, 0)), 2), (((0,),), 3998)):
            for thing in things():
                before = kinds_of(copied(thing))
                self.assertIs(way_holds(table, many, 0, 0, thing), False, thing)
                self.assertEqual(kinds_of(thing), before)
                self.assertIs(way_holds(((0, 0), (0, 0)), 2, 0, 0, (0, thing, 0)), kinds_of(thing) in (kinds_of(0), kinds_of(1)))

    def test_truths_for_numbers(self):
        zeros = ((0, 0), (0, 0))
        for way in ((0, True, 0), (False, 1, 0), (0, 1, False), (0, False, 0)):
            self.assertIs(way_holds(zeros, 2, 0, 0, way), False, way)


if __name__ == "__main__":
    unittest.main()
