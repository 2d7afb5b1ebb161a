"""Two rows mended: point 24, what is told."""

import itertools
import random
import unittest

from bendtables.errors import BendError, NoFit
from bendtables.mending import mended
from tests.making import (
    all_tables, any_full_table, copied, crooks, full_bending_table, kinds_of, least_mend_sum, mend_sum, rises_of,
)

GREAT = 10 ** 9


class MendedTest(unittest.TestCase):
    def check_pairs(self, table, total, pairs):
        self.assertIs(type(pairs), tuple)
        self.assertEqual(list(pairs), sorted(pairs))
        columns = [column for pair in pairs for column in pair]
        self.assertEqual({type(column) for column in columns} - {int}, set())
        self.assertEqual(len(columns), len(set(columns)), (table, pairs))
        shown = 0
        for pair in pairs:
            self.assertIs(type(pair), tuple)
            k, l = pair
            self.assertTrue(0 <= k < l < len(table[0]))
            by = table[0][k] + table[1][l] - table[0][l] - table[1][k]
            self.assertGreater(by, 0, (table, pair))
            shown += by
        self.assertEqual(shown, total, (table, pairs))

    def check(self, table):
        """The mend bends and has the sum that is told, and the pairs come to it, which shows that none is less."""
        told = mended(table)
        self.assertIs(type(told), tuple)
        total, mend, pairs = told
        self.assertIs(type(total), int)
        self.assertEqual([[type(number) for number in row] for row in mend], [[int] * len(table[0])] * 2)
        self.assertEqual([type(row) for row in mend] + [type(mend)], [tuple] * 3)
        self.assertEqual(crooks(mend), [], table)
        self.assertEqual(mend_sum(table, mend), total, table)
        self.check_pairs(table, total, pairs)
        return total

    def test_told(self):
        total, mend, pairs = mended(((0, 0), (0, 3)))
        self.assertEqual((total, pairs), (3, ((0, 1),)))
        self.assertEqual(self.check(((0, 0), (0, 3))), 3)
        self.assertEqual(self.check(((0, 0, 0), (0, 3, 1))), 3)
        self.assertEqual(self.check(((0, 0, 0, 0), (1, 5, 2, 9))), 11)

    def test_what_bends_is_its_own_mend(self):
        chance = random.Random(601)
        for table in (((5,), (7,)), ((1, 2, 3), (1, 2, 3)), ((0, 5), (9, -9)), ((-GREAT,), (GREAT,))):
            self.assertEqual(mended(table), (0, table, ()))
        for _ in range(50):
            table = full_bending_table(chance, 2, chance.randint(1, 40))
            self.assertEqual(mended(table), (0, table, ()))

    def test_a_column_that_is_sold_no_more(self):
        # The second column is worth less than the third one for the first.
        self.assertEqual(self.check(((0, 0, 0), (0, 2, 5))), 5)
        self.assertEqual(self.check(((0, 0, 0, 0), (0, 2, 5, 6))), 9)
        self.assertEqual(self.check(((0,) * 6, (0, 1, 2, 3, 4, 5))), 9)

    def test_like_rises(self):
        self.assertEqual(self.check(((0, 0, 0, 0), (0, 5, 5, 10))), 10)
        self.assertEqual(self.check(((3, 3, 3, 3), (3, 3, 3, 3))), 0)
        self.assertEqual(self.check(((0, 0, 0, 0), (1, 1, 2, 2))), 2)

    def test_all_mends_of_small_tables(self):
        for columns, numbers, others in ((1, (0, 1, 2), (-1, 0, 1, 2, 3)), (2, (0, 1, 2), (-1, 0, 1, 2, 3)), (3, (0, 1), (-1, 0, 1, 2))):
            mends = [mend for mend in all_tables(2, columns, others) if not crooks(mend)]
            for table in all_tables(2, columns, numbers):
                least = min(mend_sum(table, mend) for mend in mends)
                self.assertEqual(self.check(table), least, table)
                self.assertEqual(least_mend_sum(table), least)

    def test_the_least_sum_by_another_way(self):
        for rises in itertools.product(range(4), repeat=4):
            table = ((7, 0, -3, 1), tuple(rise + start for rise, start in zip(rises, (7, 0, -3, 1))))
            self.assertEqual(rises_of(table), list(rises))
            self.assertEqual(self.check(table), least_mend_sum(table))
        chance = random.Random(602)
        for _ in range(300):
            table = any_full_table(chance, 2, chance.randint(1, 10))
            self.assertEqual(self.check(table), least_mend_sum(table), table)

    def test_forty_columns(self):
        chance = random.Random(603)
        for columns in (12, 13, 39, 40) * 15:
            table = any_full_table(chance, 2, columns)
            self.assertEqual(self.check(table), least_mend_sum(table))
        for table in (((0,) * 40, tuple(range(40))), (tuple(range(40)), (0,) * 40), ((GREAT, -GREAT) * 20, (-GREAT, GREAT) * 20)):
            self.assertEqual(self.check(table), least_mend_sum(table))

    def test_greater_numbers(self):
        self.assertEqual(self.check(((0, 0), (-10 ** 60, 10 ** 60))), 2 * 10 ** 60)

    def test_a_mend_that_was_told_again(self):
        chance = random.Random(604)
        for _ in range(40):
            mend = mended(any_full_table(chance, 2, chance.randint(1, 12)))[1]
            self.assertEqual(mended(mend), (0, mend, ()))

    def test_other_tables_are_refused(self):
        chance = random.Random(605)
        for rows in (1, 3, 4, 12):
            for columns in (1, 2, 12):
                with self.assertRaises(BendError) as caught:
                    mended(any_full_table(chance, rows, columns))
                self.assertIs(type(caught.exception), NoFit)

    def test_nothing_is_changed_and_the_same_is_told_again(self):
        chance = random.Random(606)
        for _ in range(20):
            table = any_full_table(chance, 2, chance.randint(1, 9))
            before = copied(table)
            self.assertEqual(kinds_of(mended(table)), kinds_of(mended(before)))
            self.assertEqual(table, before)


if __name__ == "__main__":
    unittest.main()
