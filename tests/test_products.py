"""Products and mids: point 15."""

import itertools
import random
import unittest

from bendtables.errors import BendError, NoFit
from bendtables.products import mids, product
from tests.making import all_tables, any_full_table, copied, crooks, full_bending_table, kinds_of, plain_product

GREAT = 10 ** 9


class ProductTest(unittest.TestCase):
    def check(self, one, other):
        told = (product(one, other), mids(one, other))
        self.assertEqual(kinds_of(told), kinds_of(plain_product(one, other)), (one, other))
        return told

    def test_told(self):
        one, other = ((0, 3), (5, 1)), ((1, 7, 0), (2, 2, 2))
        self.assertEqual(product(one, other), ((1, 5, 0), (3, 3, 3)))
        self.assertEqual(mids(one, other), ((0, 1, 0), (1, 1, 1)))

    def test_one_row_and_one_column(self):
        self.assertEqual(product(((4,),), ((-1,),)), ((3,),))
        self.assertEqual(mids(((4,),), ((-1,),)), ((0,),))
        self.assertEqual(product(((1,), (2,)), ((10, 20, 30),)), ((11, 21, 31), (12, 22, 32)))
        self.assertEqual(mids(((1,), (2,)), ((10, 20, 30),)), ((0, 0, 0), (0, 0, 0)))
        self.assertEqual(product(((10, 20, 5),), ((1,), (2,), (6,))), ((11,),))
        self.assertEqual(mids(((10, 20, 5),), ((1,), (2,), (6,))), ((0,),))

    def test_the_first_of_several(self):
        self.assertEqual(mids(((0, 0, 0),), ((1,), (0,), (0,))), ((1,),))
        self.assertEqual(mids(((2, 1, 0),), ((0, 1), (1, 0), (2, 0))), ((0, 2),))
        self.assertEqual(mids(((0,) * 12,) * 12, ((0,) * 12,) * 12), ((0,) * 12,) * 12)

    def test_all_small_tables(self):
        for one in all_tables(2, 2, (0, 1)):
            for other in all_tables(2, 3, (0, 1)):
                self.check(one, other)

    def test_any_tables(self):
        chance = random.Random(150)
        for _ in range(150):
            rows, between, columns = (chance.randint(1, 12) for _ in range(3))
            self.check(any_full_table(chance, rows, between), any_full_table(chance, between, columns))

    def test_twelve_rows_and_columns(self):
        chance = random.Random(151)
        for rows, between, columns in ((12, 12, 12), (1, 12, 1), (12, 1, 12)):
            self.check(any_full_table(chance, rows, between), any_full_table(chance, between, columns))

    def test_sizes_that_do_not_fit(self):
        chance = random.Random(152)
        for rows, left, right, columns in itertools.product((1, 2, 3), repeat=4):
            one, other = any_full_table(chance, rows, left), any_full_table(chance, right, columns)
            if left == right:
                self.check(one, other)
                continue
            for told in (product, mids):
                with self.assertRaises(NoFit) as refused:
                    told(one, other)
                self.assertIsInstance(refused.exception, BendError)

    def test_great_numbers(self):
        one, other = ((GREAT, -GREAT), (-GREAT, GREAT)), ((GREAT, -GREAT), (-GREAT, GREAT))
        self.assertEqual(product(one, other), ((-2 * GREAT, 0), (0, -2 * GREAT)))
        self.assertEqual(mids(one, other), ((1, 0), (0, 0)))

    def test_what_was_told_is_handed_in_again(self):
        chance = random.Random(153)
        table = any_full_table(chance, 4, 4)
        for _ in range(40):
            table = self.check(table, table)[0]
        sums, firsts = self.check(((10 ** 60, 2),), ((1,), (10 ** 70,)))
        self.check(sums, firsts)

    def test_where_both_bend_the_product_bends_and_the_mids_step(self):
        chance = random.Random(154)
        for _ in range(200):
            rows, between, columns = (chance.randint(1, 8) for _ in range(3))
            one, other = full_bending_table(chance, rows, between), full_bending_table(chance, between, columns)
            sums, firsts = self.check(one, other)
            self.assertEqual(crooks(sums), [])
            for line in firsts + tuple(zip(*firsts)):
                self.assertEqual(list(line), sorted(line))

    def test_nothing_is_changed(self):
        one, other = ((1, 2), (3, 4)), ((5, 6), (7, 8))
        before = copied((one, other))
        self.check(one, other)
        self.assertEqual((one, other), before)


if __name__ == "__main__":
    unittest.main()
