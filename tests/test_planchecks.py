"""Whether plans hold: point 19, its last sentence."""

import itertools
import random
import unittest

from bendtables.planchecks import plan_holds
from tests.making import (
    CountedLook, all_tables, altered, any_costs, copied, cost_table, crooks, kinds_of, plain_planned, things,
)


class PlanHoldsTest(unittest.TestCase):
    def asked(self, table, thing):
        """What is told, with the looks counted."""
        look = CountedLook(table)
        told = plan_holds(look, len(table), thing)
        self.assertLessEqual(len(look.seen), 4 * len(table))
        return told

    def test_told(self):
        table = cost_table(4, lambda i, k: (k - i) ** 2 + 5)
        self.assertIs(self.asked(table, ((0, 6, 9, 14, 18), (0, 0, 0, 2))), True)
        self.assertIs(self.asked(table, ((0, 6, 9, 14, 18), (0, 0, 0, 1))), False)
        self.assertIs(self.asked(table, ((0, 6, 9, 14, 19), (0, 0, 0, 2))), False)
        self.assertIs(self.asked(table, ((0, 0, 0, 2), (0, 6, 9, 14, 18))), False)

    def test_one_thing(self):
        self.assertIs(self.asked(((None, 7),), ((0, 7), (0,))), True)
        for thing in (((0, 6), (0,)), ((0, 8), (0,)), ((1, 8), (0,)), ((0, 7), (1,)), ((0, 7), (-1,)), ((7,), (0,)), ((0, 7), ())):
            self.assertIs(self.asked(((None, 7),), thing), False, thing)

    def test_all_that_small_costs_could_be(self):
        for many, numbers, worth_numbers in ((1, (-1, 0, 1), (-2, -1, 0, 1, 2)), (2, (-1, 0, 1), (-2, -1, 0, 1)), (3, (0, 1), (0, 1))):
            for flat in all_tables(1, many * (many + 1) // 2, numbers):
                left = list(flat[0])
                table = cost_table(many, lambda i, k: left.pop())
                if crooks(table):
                    continue
                right = plain_planned(table)
                for worths in itertools.product(worth_numbers, repeat=many + 1):
                    for froms in itertools.product(range(-1, many + 1), repeat=many):
                        self.assertIs(self.asked(table, (worths, froms)), (worths, froms) == right, (table, worths, froms))

    def test_any_costs(self):
        chance = random.Random(200)
        for many in list(range(1, 31)) * 3 + [63, 64, 99, 100] * 8:
            table = any_costs(chance, many)
            self.assertIs(self.asked(table, plain_planned(table)), True)
            self.check_wrong_plans(chance, table)

    def check_wrong_plans(self, chance, table):
        many = len(table)
        worths, froms = plain_planned(table)
        any_ones = tuple(chance.randrange(many) for _ in range(many))
        rising = tuple(min(at, cut) for at, cut in enumerate(sorted(any_ones)))
        to_and_fro = tuple(0 if at % 2 else at for at in range(many))
        for other in (any_ones, rising, to_and_fro, (0,) * many, tuple(range(many)), tuple(reversed(froms)), (many - 1,) * many):
            self.assertIs(self.asked(table, (worths, other)), other == froms)
            own = self.worths_by(table, other)
            self.assertIs(self.asked(table, (own, other)), (own, other) == (worths, froms))
        at = chance.randint(0, many)
        for by in (-1, 1, 10 ** 39):
            off = worths[:at] + (worths[at] + by,) + worths[at + 1:]
            self.assertIs(self.asked(table, (off, froms)), False)
            later = worths[:at] + tuple(worth + by for worth in worths[at:])
            self.assertIs(self.asked(table, (later, froms)), False)

    def worths_by(self, table, froms):
        """The worths that these froms would have, where they are such at all."""
        worths = [0]
        for j, cut in enumerate(froms, start=1):
            worths.append(worths[cut] + table[cut][j] if cut < j else 0)
        return tuple(worths)

    def test_only_the_least_cut_is_let_by(self):
        zeros = cost_table(3, lambda i, k: 0)
        for froms in itertools.product(range(3), repeat=3):
            self.assertIs(self.asked(zeros, ((0,) * 4, froms)), froms == (0, 0, 0))

    def test_worths_that_go_on_from_a_wrong_one(self):
        # From the wrong worth on all is reckoned rightly, so that only that one is off.
        table = cost_table(5, lambda i, k: (k - i) ** 2)
        self.assertIs(self.asked(table, ((0, 1, 2, 3, 4, 5), (0, 1, 2, 3, 4))), True)
        self.assertIs(self.asked(table, ((0, 0, 1, 2, 3, 4), (0, 1, 2, 3, 4))), False)
        self.assertIs(self.asked(table, ((1, 2, 3, 4, 5, 6), (0, 1, 2, 3, 4))), False)
        self.assertIs(self.asked(table, ((-1, 0, 1, 2, 3, 4), (0, 1, 2, 3, 4))), False)

    def test_costs_however_great(self):
        table = cost_table(20, lambda i, k: (k - i) ** 2 * 10 ** 400 - i)
        self.assertIs(self.asked(table, plain_planned(table)), True)
        worths, froms = plain_planned(table)
        self.assertIs(self.asked(table, (worths[:-1] + (worths[-1] + 1,), froms)), False)

    def test_one_part_altered(self):
        tables = (((None, 0),), ((None, 1),), cost_table(3, lambda i, k: 0), cost_table(4, lambda i, k: (k - i) ** 2 + 5))
        for table in tables:
            for thing in altered(plain_planned(table)):
                self.assertIs(self.asked(table, thing), False, thing)

    def test_things_of_other_kinds(self):
        for table in (((None, 0),), cost_table(3, lambda i, k: (k - i) ** 2), cost_table(2, lambda i, k: 0)):
            worths, froms = plain_planned(table)
            for thing in things():
                before = kinds_of(copied(thing))
                for whole in (thing, (thing, thing), (worths, thing), (thing, froms), (worths, froms, thing)):
                    self.assertIs(self.asked(table, whole), False, whole)
                self.assertEqual(kinds_of(thing), before)

    def test_truths_for_numbers(self):
        table = cost_table(2, lambda i, k: (k - i) ** 2)
        self.assertIs(self.asked(table, ((0, 1, 2), (0, 1))), True)
        for thing in (((False, 1, 2), (0, 1)), ((0, True, 2), (0, 1)), ((0, 1, 2), (False, 1)), ((0, 1, 2), (0, True))):
            self.assertIs(self.asked(table, thing), False, thing)


if __name__ == "__main__":
    unittest.main()
