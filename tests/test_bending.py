"""What bends, and slacks: points 7 and 8."""

import random
import unittest

from bendtables.bending import bends, crook_of, short_of, slacks
from bendtables.rules import is_rule, table_by
from bendtables.tables import is_full
from tests.making import (
    all_small_tables, all_tables, bending_tables, crooks, is_crooked_at, kinds_of, plain_slacks, steps_right,
)


def mixed_tables():
    """Tables of up to seven rows and columns, most of them crooked somewhere, some with places where nothing stands."""
    chance = random.Random(8)
    for _ in range(400):
        rows, columns = chance.randint(1, 7), chance.randint(1, 7)
        lack = chance.choice((0, 0, 0.1, 0.5, 0.8))
        most = chance.choice((1, 3, 10 ** 9, 10 ** 40))
        lines = [[None if chance.random() < lack else chance.randint(-most, most) for _ in range(columns)] for _ in range(rows)]
        yield tuple(tuple(line) for line in lines)


def once_crooked_tables():
    """Tables that bend but where one number was changed."""
    chance = random.Random(9)
    for table in bending_tables(300, 8, 8, 10):
        lines = [list(row) for row in table]
        i, k = chance.randrange(len(lines)), chance.randrange(len(lines[0]))
        lines[i][k] = None if lines[i][k] is None or chance.random() < 0.3 else lines[i][k] + chance.choice((-4, -1, 1, 4))
        yield tuple(tuple(line) for line in lines)


class BendsTest(unittest.TestCase):
    def check(self, table):
        found = crooks(table)
        self.assertIs(bends(table), not found, table)
        first = found[0] if found else None
        self.assertEqual(crook_of(table), first, table)
        self.assertEqual(kinds_of(crook_of(table)), kinds_of(first))

    def test_told(self):
        self.assertIs(bends(((1, 2), (2, 3))), True)
        self.assertIs(bends(((1, 2), (2, 4))), False)
        self.assertEqual(crook_of(((1, 2), (2, 4))), (0, 1, 0, 1))
        self.assertIs(crook_of(((1, 2), (2, 3))), None)
        self.assertEqual(crook_of(((0, 0, 0), (0, 0, 1), (0, 0, 0))), (0, 1, 0, 2))
        self.assertEqual(crook_of(((0, 0, 0), (0, 0, 0), (0, 0, 1))), (0, 2, 0, 2))

    def test_one_row_and_one_column(self):
        for table in (((1,),), ((None,),), ((3, 1, None, 2),), ((3,), (None,), (2,))):
            self.assertIs(bends(table), True)
            self.assertIs(crook_of(table), None)

    def test_rows_of_none_alone(self):
        self.assertIs(bends(((None, None), (None, None))), True)
        self.assertIs(bends(((5, 1), (None, None), (1, -3))), True)
        self.assertEqual(crook_of(((1, 1), (None, None), (1, 2))), (0, 2, 0, 1))

    def test_two_corners_alone(self):
        # The straight corners alone ask nothing; the crossed ones alone ask for the straight ones.
        self.assertIs(bends(((1, None), (None, 1))), True)
        self.assertIs(bends(((None, 1), (1, None))), False)
        self.assertEqual(crook_of(((None, 1), (1, None))), (0, 1, 0, 1))
        self.assertIs(bends(((1, 1), (1, None))), False)
        self.assertIs(bends(((None, 1), (1, 1))), False)
        self.assertIs(bends(((1, 1), (None, 1))), True)
        self.assertIs(bends(((1, None), (1, 1))), True)

    def test_all_small_tables(self):
        for table in all_small_tables():
            self.check(table)

    def test_all_of_two_rows_with_slopes(self):
        for row in all_tables(1, 4, (None, 0, 1)):
            for other in all_tables(1, 4, (None, 0, 2)):
                self.check((row[0], other[0]))

    def test_mixed_tables(self):
        for table in mixed_tables():
            self.check(table)

    def test_once_crooked_tables(self):
        for table in once_crooked_tables():
            self.check(table)

    def test_tables_that_bend(self):
        for table in bending_tables(300, 8, 8, 11):
            self.check(table)
            self.assertIs(bends(table), True)

    def test_the_greatest(self):
        great = [[10 ** 9 - 2 * abs(i - k) for k in range(12)] for i in range(12)]
        self.check(tuple(tuple(row) for row in great))
        wide = (tuple(10 ** 9 for _ in range(40)), tuple(10 ** 9 - k for k in range(40)))
        self.check(wide)
        self.check(wide[::-1])
        self.assertEqual(crook_of(wide[::-1]), (0, 1, 0, 1))

    def test_tables_of_rules(self):
        table = table_by(("square", tuple(range(100)), tuple(range(0, 200, 2))))
        self.assertIs(bends(table), True)
        lines = [list(row) for row in table]
        lines[99][99] += 10 ** 6
        crooked = tuple(tuple(line) for line in lines)
        self.assertEqual(crook_of(crooked), (0, 99, 0, 99))
        lines[50][50] = None
        crooked = tuple(tuple(line) for line in lines)
        self.assertEqual(crook_of(crooked), (0, 50, 0, 50))

    def test_the_same_is_told_again(self):
        for table in mixed_tables():
            self.assertEqual(crook_of(table), crook_of(table))


class SlacksTest(unittest.TestCase):
    def test_told(self):
        self.assertEqual(slacks(((1, 2), (2, 3))), ((0,),))
        self.assertEqual(slacks(((0, 5, 1), (1, 2, 2))), ((4, -4),))
        self.assertEqual(slacks(((0, 1, None), (None, 2, 3))), ((None, None),))
        self.assertEqual(slacks(((0, 1, 7, None), (None, 2, 3, 3), (None, None, 1, 1))), ((None, 5, None), (None, None, 0)))

    def test_one_row_and_one_column(self):
        self.assertEqual(slacks(((1,),)), ())
        self.assertEqual(slacks(((1, 2, None),)), ())
        self.assertEqual(slacks(((1,), (2,), (3,))), ((), ()))

    def test_all_stepped_ones(self):
        several = list(all_small_tables()) + list(mixed_tables()) + list(once_crooked_tables())
        several += list(bending_tables(200, 8, 8, 12))
        for table in several:
            if steps_right(table):
                told = slacks(table)
                self.assertEqual(kinds_of(told), kinds_of(plain_slacks(table)))
                no_slack_below = all(slack is None or slack >= 0 for row in told for slack in row)
                self.assertIs(bends(table), no_slack_below)

    def test_sums_of_slacks(self):
        for table in mixed_tables():
            if is_full(table):
                told = slacks(table)
                for i in range(len(table)):
                    for j in range(i + 1, len(table)):
                        for k in range(len(table[0])):
                            for l in range(k + 1, len(table[0])):
                                more = table[i][l] + table[j][k] - table[i][k] - table[j][l]
                                self.assertEqual(sum(sum(row[k:l]) for row in told[i:j]), more)
                                self.assertIs(is_crooked_at(table, i, j, k, l), more < 0)


class ShortOfTest(unittest.TestCase):
    def test_told(self):
        self.assertEqual(short_of(((3, 7), (5, 7))), ("short", (3, 5), (3, 7), ((2,),)))
        self.assertEqual(short_of(((3,),)), ("short", (3,), (3,), ()))
        self.assertEqual(short_of(((3, 4),)), ("short", (3,), (3, 4), ()))
        self.assertEqual(short_of(((3,), (4,))), ("short", (3, 4), (3,), ((),)))

    def test_the_rule_gives_the_table_back(self):
        several = list(all_small_tables()) + list(mixed_tables())
        for table in several:
            if is_full(table):
                rule = short_of(table)
                self.assertTrue(is_rule(rule))
                self.assertEqual(rule[0], "short")
                self.assertEqual(rule[1], tuple(row[0] for row in table))
                self.assertEqual(rule[2], table[0])
                self.assertEqual(rule[3], slacks(table))
                self.assertEqual(table_by(rule), table)


if __name__ == "__main__":
    unittest.main()
