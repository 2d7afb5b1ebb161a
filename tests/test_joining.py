"""Rows, what bends up, joined rows: point 13."""

import random
import unittest

from bendtables.joining import bends_up, joined
from tests.making import (
    all_rows, any_row, copied, kinds_of, plain_bends_up, plain_joined, rising_row, row_by_steps,
)

GREAT = 10 ** 9


class BendsUpTest(unittest.TestCase):
    def test_told(self):
        self.assertIs(bends_up((4, 1, 0, 0, 3)), True)
        self.assertIs(bends_up((0, 1, 1)), False)
        self.assertIs(bends_up((0, -1, -3)), False)
        self.assertIs(bends_up((5, 4, 3, 2)), True)

    def test_one_number_and_two(self):
        for row in ((0,), (-7,), (GREAT, -GREAT), (-GREAT, GREAT), (3, 3)):
            self.assertIs(bends_up(row), True, row)

    def test_only_one_step_is_less(self):
        # A step that is less than the one ahead is seen wherever it stands.
        steps = list(range(59))
        self.assertIs(bends_up(row_by_steps(0, steps)), True)
        for at in range(58):
            less = steps[:at] + [steps[at + 1] + 1] + steps[at + 1:]
            self.assertIs(bends_up(row_by_steps(0, less)), False, at)

    def test_like_steps(self):
        self.assertIs(bends_up(tuple(range(0, 600, 10))), True)
        self.assertIs(bends_up((7,) * 60), True)

    def test_all_small_rows(self):
        for row in all_rows(5, (-1, 0, 1, 3)):
            self.assertIs(bends_up(row), plain_bends_up(row), row)

    def test_great_numbers(self):
        self.assertIs(bends_up((0, 10 ** 50, 2 * 10 ** 50)), True)
        self.assertIs(bends_up((0, 10 ** 50, 2 * 10 ** 50 - 1)), False)
        self.assertIs(bends_up((GREAT, -GREAT, GREAT)), True)
        self.assertIs(bends_up((-GREAT, GREAT, -GREAT)), False)


class JoinedTest(unittest.TestCase):
    def check(self, one, other):
        told = joined(one, other)
        self.assertEqual(kinds_of(told), kinds_of(plain_joined(one, other)), (one, other))
        return told

    def test_told(self):
        self.assertEqual(joined((0, 5, 1), (0, 2)), ((0, 2, 1, 3), (0, 0, 2, 2)))
        self.assertEqual(joined((3, 1, 4), (2, 0, 5)), ((5, 3, 1, 4, 9), (0, 0, 1, 2, 2)))

    def test_rows_of_one_number(self):
        self.assertEqual(joined((4,), (-1,)), ((3,), (0,)))
        self.assertEqual(joined((4,), (1, 0, 7)), ((5, 4, 11), (0, 0, 0)))
        self.assertEqual(joined((1, 0, 7), (4,)), ((5, 4, 11), (0, 1, 2)))

    def test_the_first_of_several(self):
        self.assertEqual(joined((0, 0, 0), (0, 0, 0)), ((0,) * 5, (0, 0, 0, 1, 2)))
        self.assertEqual(joined((2, 1, 0), (0, 1, 2)), ((2, 1, 0, 1, 2), (0, 1, 2, 2, 2)))
        self.assertEqual(joined((0, 1, 2), (2, 1, 0)), ((2, 1, 0, 1, 2), (0, 0, 0, 1, 2)))
        self.assertEqual(joined((0, 1), (0, 1)), ((0, 1, 2), (0, 0, 1)))

    def test_how_many(self):
        chance = random.Random(130)
        for many in (1, 2, 3, 59, 60):
            for others in (1, 2, 59, 60):
                sums, firsts = self.check(any_row(chance, many), any_row(chance, others))
                self.assertEqual((len(sums), len(firsts)), (many + others - 1,) * 2)

    def test_all_small_rows(self):
        rows = list(all_rows(3, (0, 1, 3)))
        for one in rows:
            for other in rows:
                self.check(one, other)

    def test_any_rows(self):
        chance = random.Random(131)
        for _ in range(300):
            self.check(any_row(chance, chance.randint(1, 12)), any_row(chance, chance.randint(1, 12)))

    def test_great_numbers(self):
        self.assertEqual(joined((GREAT, -GREAT), (GREAT, -GREAT))[0], (2 * GREAT, 0, -2 * GREAT))
        self.check((10 ** 50, -10 ** 50, 0), (10 ** 60, 1, -10 ** 60))

    def test_what_was_told_is_handed_in_again(self):
        chance = random.Random(132)
        row = any_row(chance, 60)
        for _ in range(3):
            row = self.check(row, row)[0]
        self.assertEqual(len(row), 8 * 59 + 1)
        self.check(joined((1, 2, 0), (3, 4))[1], (1, 2))

    def test_where_other_bends_up_no_first_is_less_than_the_one_ahead(self):
        chance = random.Random(133)
        for _ in range(300):
            one = any_row(chance, chance.randint(1, 60))
            firsts = self.check(one, rising_row(chance, chance.randint(1, 60)))[1]
            self.assertEqual(list(firsts), sorted(firsts))

    def test_where_both_bend_up_the_joined_row_does_with_the_steps_of_both(self):
        chance = random.Random(134)
        for _ in range(200):
            one, other = rising_row(chance, chance.randint(1, 60)), rising_row(chance, chance.randint(1, 60))
            sums = joined(one, other)[0]
            self.assertIs(bends_up(sums), True)
            steps = [one[k + 1] - one[k] for k in range(len(one) - 1)]
            steps += [other[k + 1] - other[k] for k in range(len(other) - 1)]
            self.assertEqual(sums, row_by_steps(one[0] + other[0], sorted(steps)))

    def test_the_same_is_told_again_and_nothing_is_changed(self):
        one, other = (3, 1, 4, 1), (2, 7, 1)
        before = copied((one, other))
        self.assertEqual(joined(one, other), joined(one, other))
        self.assertEqual((one, other), before)


if __name__ == "__main__":
    unittest.main()
