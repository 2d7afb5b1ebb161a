"""Plans of just so many stretches: point 19."""

import random
import unittest

from bendtables.counted import planned_in, worths_by_count
from bendtables.errors import NoFit
from bendtables.joining import bends_up
from tests.making import (
    CountedLook, all_plans, all_small_costs, any_costs, cost_table, kinds_of, plan_cost, plain_bends_up, things,
)


def plain_layers(table, count):
    """For each number of stretches and of things the least cost, and the least cut right ahead; word by word."""
    many = len(table)
    layers = {(0, 0): (0, None)}
    for stretches in range(1, count + 1):
        for things_ahead in range(stretches, many + 1):
            ways = [
                (layers[(stretches - 1, cut)][0] + table[cut][things_ahead], cut)
                for cut in range(things_ahead) if (stretches - 1, cut) in layers
            ]
            layers[(stretches, things_ahead)] = min(ways)
    return layers


def plain_planned_in(table, count):
    """The plan read back from many."""
    layers = plain_layers(table, count)
    cuts = [len(table)]
    for stretches in range(count, 0, -1):
        cuts.append(layers[(stretches, cuts[-1])][1])
    return (layers[(count, len(table))][0], tuple(reversed(cuts)))


class PlannedInTest(unittest.TestCase):
    def check(self, table, count):
        told = planned_in(CountedLook(table), len(table), count)
        self.assertEqual(kinds_of(told), kinds_of(plain_planned_in(table, count)), (table, count))
        return told

    def test_told(self):
        table = cost_table(5, lambda i, k: (k - i) ** 2)
        self.assertEqual(planned_in(CountedLook(table), 5, 1), (25, (0, 5)))
        self.assertEqual(planned_in(CountedLook(table), 5, 2), (13, (0, 2, 5)))
        self.assertEqual(planned_in(CountedLook(table), 5, 3), (9, (0, 1, 3, 5)))
        self.assertEqual(planned_in(CountedLook(table), 5, 5), (5, (0, 1, 2, 3, 4, 5)))

    def test_one_thing(self):
        for cost in (0, -5, 10 ** 60):
            self.assertEqual(planned_in(CountedLook(((None, cost),)), 1, 1), (cost, (0, 1)))

    def test_one_stretch_and_as_many_as_things(self):
        chance = random.Random(190)
        for many in (1, 2, 3, 10, 100):
            table = any_costs(chance, many)
            self.assertEqual(self.check(table, 1), (table[0][many], (0, many)))
            total = sum(table[at][at + 1] for at in range(many))
            self.assertEqual(self.check(table, many), (total, tuple(range(many + 1))))

    def test_counts_that_are_none(self):
        for many in (1, 2, 5):
            table = cost_table(many, lambda i, k: (k - i) ** 2)
            for count in (0, -1, many + 1, many + 2, -many, 10 ** 39):
                look = CountedLook(table)
                with self.assertRaises(NoFit):
                    planned_in(look, many, count)
                self.assertEqual(look.seen, set())

    def test_truths_and_things_of_other_kinds_are_no_counts(self):
        table = cost_table(2, lambda i, k: (k - i) ** 2)
        for thing in [thing for thing in things() if kinds_of(thing) != kinds_of(1)]:
            with self.assertRaises(NoFit):
                planned_in(CountedLook(table), 2, thing)

    def test_all_small_costs(self):
        for table in all_small_costs():
            for count in range(1, len(table) + 1):
                self.check(table, count)

    def test_it_is_the_least_of_all_plans_read_back_by_the_least_cuts(self):
        chance = random.Random(191)
        for _ in range(80):
            many = chance.randint(1, 8)
            table = any_costs(chance, many)
            for count in range(1, many + 1):
                worth, cuts = self.check(table, count)
                self.assertEqual((len(cuts), cuts[0], cuts[-1]), (count + 1, 0, many))
                self.assertEqual(worth, plan_cost(table, cuts))
                for stretches in range(count, 0, -1):
                    plans = [plan for plan in all_plans(cuts[stretches]) if len(plan) == stretches + 1]
                    least = min(plan_cost(table, plan) for plan in plans)
                    ahead = [plan[-2] for plan in plans if plan_cost(table, plan) == least]
                    self.assertEqual(cuts[stretches - 1], min(ahead))
                    if stretches == count:
                        self.assertEqual(worth, least)

    def test_the_least_of_ties(self):
        zeros = cost_table(10, lambda i, k: 0)
        self.assertEqual(self.check(zeros, 1), (0, (0, 10)))
        self.assertEqual(self.check(zeros, 2), (0, (0, 1, 10)))
        self.assertEqual(self.check(zeros, 4), (0, (0, 1, 2, 3, 10)))
        squares = cost_table(7, lambda i, k: (k - i) ** 2)
        self.assertEqual(self.check(squares, 3), (17, (0, 2, 4, 7)))

    def test_any_costs(self):
        chance = random.Random(192)
        for many in (5, 9, 16, 17, 30, 31, 40):
            for _ in range(6):
                table = any_costs(chance, many)
                for count in {1, 2, many // 2, chance.randint(1, many), many - 1, many}:
                    self.check(table, count)

    def test_a_hundred_things(self):
        # All plans one by one would never end.
        chance = random.Random(193)
        for count in (2, 7, 33, 50, 99):
            self.check(any_costs(chance, 100), count)

    def test_costs_however_great(self):
        table = cost_table(12, lambda i, k: (k - i) ** 2 * 10 ** 400 - i)
        for count in range(1, 13):
            self.check(table, count)


class WorthsByCountTest(unittest.TestCase):
    def check(self, table):
        told = worths_by_count(CountedLook(table), len(table))
        layers = plain_layers(table, len(table))
        right = tuple(layers[(count, len(table))][0] for count in range(1, len(table) + 1))
        self.assertEqual(kinds_of(told), kinds_of(right), table)
        self.assertTrue(plain_bends_up(told))
        self.assertIs(bends_up(told), True)

    def test_told(self):
        table = cost_table(5, lambda i, k: (k - i) ** 2)
        self.assertEqual(worths_by_count(CountedLook(table), 5), (25, 13, 9, 7, 5))

    def test_one_thing(self):
        self.assertEqual(worths_by_count(CountedLook(((None, -3),)), 1), (-3,))

    def test_all_small_costs(self):
        for table in all_small_costs():
            self.check(table)

    def test_any_costs(self):
        chance = random.Random(194)
        for many in (1, 2, 3, 5, 8, 13, 21, 34) * 4:
            self.check(any_costs(chance, many))

    def test_a_hundred_things(self):
        chance = random.Random(195)
        self.check(any_costs(chance, 100))
        self.check(cost_table(100, lambda i, k: (k - i) ** 3))

    def test_costs_however_great(self):
        self.check(cost_table(12, lambda i, k: (k - i) ** 2 * 10 ** 400 - i))


if __name__ == "__main__":
    unittest.main()
