"""Undone rows: point 14."""

import itertools
import random
import unittest

from bendtables.joining import joined
from bendtables.undoing import undone
from tests.making import all_rows, any_row, kinds_of, plain_joined

GREAT = 10 ** 9


def plain_undone(row, other):
    """At i the greatest of the row's i + j less other's j, word by word."""
    many = len(row) - len(other) + 1
    return tuple(max(row[i + j] - other[j] for j in range(len(other))) for i in range(many))


def is_nowhere_less(one, other):
    return all(left >= right for left, right in zip(one, other, strict=True))


class UndoneTest(unittest.TestCase):
    def check(self, row, other):
        told = undone(row, other)
        self.assertEqual(kinds_of(told), kinds_of(plain_undone(row, other)), (row, other))
        return told

    def test_told(self):
        self.assertEqual(undone((5, 3, 1, 4, 9), (2, 0, 5)), (3, 1, 4))
        self.assertEqual(undone((0, 0, 0, 9), (0, 1)), (0, 0, 8))

    def test_rows_of_one_number(self):
        self.assertEqual(undone((4,), (-1,)), (5,))
        self.assertEqual(undone((4, 0, 7), (3,)), (1, -3, 4))

    def test_a_row_as_long_as_the_other(self):
        self.assertEqual(undone((4, 0, 7), (3, 1, 9)), (1,))
        self.assertEqual(undone(tuple(range(60)), (0,) * 60), (59,))

    def test_it_is_the_least_row_that_joined_is_nowhere_less(self):
        # Of all rows of small numbers, those that joined have nowhere less than the row are just those that are
        # nowhere less than the undone one.
        numbers = range(-3, 4)
        for row in itertools.product((0, 1, 3), repeat=4):
            for other in ((0, 0), (0, 2), (1, 0), (0, 1, 0), (2, 0, 1), (0,)):
                told = self.check(row, other)
                self.assertTrue(is_nowhere_less(plain_joined(told, other)[0], row))
                for one in itertools.product(numbers, repeat=len(told)):
                    fits = is_nowhere_less(plain_joined(one, other)[0], row)
                    self.assertEqual(fits, is_nowhere_less(one, told), (row, other, one))

    def test_all_small_rows(self):
        for row in all_rows(4, (0, 1, 3)):
            for other in all_rows(len(row), (0, 2)):
                self.check(row, other)

    def test_any_rows(self):
        chance = random.Random(140)
        for _ in range(300):
            others = chance.randint(1, 60)
            self.check(any_row(chance, others + chance.randint(0, 60)), any_row(chance, others))

    def test_what_was_joined_comes_back(self):
        chance = random.Random(141)
        for _ in range(200):
            one, other = any_row(chance, chance.randint(1, 60)), any_row(chance, chance.randint(1, 60))
            sums = joined(one, other)[0]
            told = self.check(sums, other)
            self.assertEqual(len(told), len(one))
            self.assertEqual(joined(told, other)[0], sums)
            self.assertTrue(is_nowhere_less(one, told))

    def test_great_numbers(self):
        self.assertEqual(undone((GREAT, -GREAT, GREAT), (-GREAT, GREAT)), (2 * GREAT, 0))
        self.check((10 ** 50, -10 ** 60, 1), (10 ** 60, -10 ** 50))


if __name__ == "__main__":
    unittest.main()
