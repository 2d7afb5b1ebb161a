"""Whether anything is what joined tells: point 13 and the interface."""

import itertools
import random
import unittest

from bendtables.joinchecks import joined_holds
from tests.making import all_rows, altered, any_row, copied, kinds_of, plain_joined, things


class JoinedHoldsTest(unittest.TestCase):
    def test_told(self):
        self.assertIs(joined_holds((0, 5, 1), (0, 2), ((0, 2, 1, 3), (0, 0, 2, 2))), True)
        self.assertIs(joined_holds((0, 5, 1), (0, 2), ((0, 2, 1, 3), (0, 0, 2, 1))), False)
        self.assertIs(joined_holds((0, 5, 1), (0, 2), ((0, 2, 1, 4), (0, 0, 2, 2))), False)

    def test_only_the_first_is_let_by(self):
        self.assertIs(joined_holds((0, 0), (0, 0), ((0, 0, 0), (0, 0, 1))), True)
        self.assertIs(joined_holds((0, 0), (0, 0), ((0, 0, 0), (0, 1, 1))), False)

    def test_all_that_small_rows_could_be(self):
        for one in all_rows(2, (0, 1)):
            for other in all_rows(2, (0, 1)):
                many = len(one) + len(other) - 1
                right = plain_joined(one, other)
                for sums in itertools.product(range(-1, 3), repeat=many):
                    for firsts in itertools.product(range(-1, 3), repeat=many):
                        thing = (sums, firsts)
                        self.assertIs(joined_holds(one, other, thing), thing == right, (one, other, thing))

    def test_any_rows(self):
        chance = random.Random(135)
        for many, others in ((1, 1), (1, 60), (60, 1), (60, 60), (7, 30)):
            one, other = any_row(chance, many), any_row(chance, others)
            self.assertIs(joined_holds(one, other, plain_joined(one, other)), True)

    def test_what_was_told_is_handed_in_again(self):
        row = (10 ** 50, -10 ** 60, 3)
        sums = plain_joined(row, row)[0]
        self.assertIs(joined_holds(sums, row, plain_joined(sums, row)), True)

    def test_one_part_altered(self):
        for one, other in (((0,), (0,)), ((1,), (0,)), ((0, 0), (1, 0)), ((3, 1, 4), (2, 0, 5)), ((0, 0, 0), (0, 0))):
            for thing in altered(plain_joined(one, other)):
                self.assertIs(joined_holds(one, other, thing), False, thing)

    def test_things_of_other_kinds(self):
        for one, other in (((0,), (0,)), ((0, 1), (1,)), ((3, 1), (2, 0))):
            for thing in things():
                before = kinds_of(copied(thing))
                self.assertIs(joined_holds(one, other, thing), False, thing)
                self.assertIs(joined_holds(one, other, (thing, thing)), False, thing)
                self.assertEqual(kinds_of(thing), before)

    def test_truths_for_numbers(self):
        self.assertIs(joined_holds((0, 0), (0,), ((0, 0), (0, 1))), True)
        self.assertIs(joined_holds((0, 0), (0,), ((0, False), (0, 1))), False)
        self.assertIs(joined_holds((0, 0), (0,), ((0, 0), (0, True))), False)
        self.assertIs(joined_holds((0, 0), (0,), ((0, 0), (False, 1))), False)


if __name__ == "__main__":
    unittest.main()
