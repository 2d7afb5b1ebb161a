"""Whether rows that stay hold: point 23, its last sentence."""

import itertools
import random
import unittest

from bendtables.going import stays_of
from bendtables.gonechecks import stays_holds
from tests.making import (
    all_tables, altered, any_full_table, copied, full_bending_table, is_plain_gone, kinds_of, most_that_stay, things,
)

MIXED = ((0, 0, 0), (9, 0, 9), (0, 0, -1), (0, 9, 0), (0, 0, -5))


class StaysHoldsTest(unittest.TestCase):
    def check(self, table, thing):
        right = is_plain_gone(table, most_that_stay(table), thing)
        self.assertIs(stays_holds(table, thing), right, (table, thing))
        return right

    def test_what_is_told_holds(self):
        chance = random.Random(511)
        for _ in range(100):
            table = any_full_table(chance, chance.randint(1, 12), chance.randint(1, 12))
            self.assertIs(stays_holds(table, stays_of(table)), True)
            table = full_bending_table(chance, chance.randint(1, 12), chance.randint(1, 12))
            self.assertIs(stays_holds(table, stays_of(table)), True)

    def test_others_that_hold(self):
        table = ((0, 0), (0, 1), (0, -1))
        self.assertIs(stays_holds(table, ((0, 2), (0, 0, 1))), True)
        self.assertIs(stays_holds(table, ((1, 2), (0, 0, 1))), True)
        self.assertIs(stays_holds(table, ((1, 2), (1, 1, 0))), True)

    def test_that_do_not_hold(self):
        table = ((0, 0), (0, 1), (0, -1))
        for thing in (
            ((0, 1), (0, 0, 1)), ((0, 1, 2), (0, 0, 1)), ((2,), (0, 0, 1)), ((2,), (0, 0, 0)), ((0, 2), (0, 1, 1)), ((), (0, 0, 1)),
            ((0, 2), (0, 1, 0)), ((0, 2), (0, 0, 2)), ((0, 2), (0, 0, -1)), ((2, 0), (0, 0, 1)), ((0, 2, 2), (0, 0, 1)), ((), ()),
            ((0, 3), (0, 0, 1)), ((-3, 2), (0, 0, 1)), ((0, -1), (0, 0, 1)), ((0, 2), (0, 0)), ((0, 2), (0, 0, 1, 1)), ((0, 0), (0, 0, 1)),
        ):
            self.assertIs(stays_holds(table, thing), False, thing)
            self.check(table, thing)

    def test_fewer_rows_than_can_stay(self):
        for table in (MIXED, ((1, 4, 16), (1, 0, 4), (16, 9, 1)), ((0,), (1,))):
            stays, levels = stays_of(table)
            for many in range(len(stays)):
                for fewer in itertools.combinations(stays, many):
                    self.assertIs(stays_holds(table, (fewer, levels)), False)
                    self.assertIs(stays_holds(table, (fewer, tuple(min(level, many - 1) for level in levels))), False)

    def test_all_that_small_tables_could_have(self):
        for rows, columns, numbers in ((1, 2, (0, 1)), (2, 2, (0, 1)), (3, 2, (0, 1))):
            for table in all_tables(rows, columns, numbers):
                most = most_that_stay(table)
                held = 0
                for many in range(rows + 2):
                    for stays in itertools.product(range(-1, rows + 1), repeat=many):
                        if many > most and stays != tuple(range(many)):
                            continue
                        for levels in itertools.product(range(-1, rows), repeat=rows):
                            told = stays_holds(table, (stays, levels))
                            self.assertIs(told, is_plain_gone(table, most, (stays, levels)), (table, stays, levels))
                            held += told
                self.assertGreater(held, 0)

    def test_altered(self):
        for table in (MIXED, ((1, 4), (1, 0), (16, 9)), ((3, 1, 2),), ((0, 0), (0, 1), (0, 2))):
            right = stays_of(table)
            most = most_that_stay(table)
            held = 0
            for thing in altered(right):
                before = kinds_of(copied(thing))
                told = stays_holds(table, thing)
                self.assertIs(told, is_plain_gone(table, most, thing), (table, thing))
                self.assertEqual(kinds_of(thing), before)
                held += told
            self.assertLess(held, 20)

    def test_things_of_other_kinds(self):
        right = stays_of(MIXED)
        for thing in things():
            for whole in (thing, (thing, thing), (right[0], thing), (thing, right[1]), (right[0], right[1], thing)):
                self.assertIs(stays_holds(MIXED, whole), False, whole)

    def test_truths_for_numbers(self):
        self.assertIs(stays_holds(((0, 0), (0, 0)), ((0, 1), (0, 1))), True)
        for thing in (
            ((False, 1), (0, 1)), ((0, True), (0, 1)), ((0, 1), (False, 1)), ((0, 1), (0, True)), ([0, 1], (0, 1)), ((0, 1), [0, 1]),
            [(0, 1), (0, 1)], ((0, 1),), ((0, 1), (0, 1), ()), ((0, 1), (0, 1), None),
        ):
            self.assertIs(stays_holds(((0, 0), (0, 0)), thing), False, thing)

    def test_no_more_rows_can_stay_than_what_is_let_by(self):
        chance = random.Random(512)
        for _ in range(300):
            rows = chance.randint(1, 5)
            table = any_full_table(chance, rows, chance.randint(1, 3))
            stays = tuple(sorted(chance.sample(range(rows), chance.randint(1, rows))))
            levels = tuple(chance.randrange(len(stays)) for _ in range(rows))
            if stays_holds(table, (stays, levels)):
                self.assertEqual(len(stays), most_that_stay(table))
            self.check(table, (stays, levels))


if __name__ == "__main__":
    unittest.main()
