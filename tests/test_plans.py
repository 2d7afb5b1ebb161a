"""Plans by stretches: points 17 and 18."""

import random
import unittest

from bendtables.plans import cuts_by, planned
from tests.making import (
    CountedLook, all_plans, all_small_costs, any_costs, cost_table, kinds_of, plan_cost, plain_planned,
)


def most_looks(many):
    return (2 * len(f"{many:b}") + 8) * many


class PlannedTest(unittest.TestCase):
    def check(self, table):
        look = CountedLook(table)
        told = planned(look, len(table))
        self.assertEqual(kinds_of(told), kinds_of(plain_planned(table)), table)
        self.assertLessEqual(len(look.seen), most_looks(len(table)))
        return told

    def test_told(self):
        table = cost_table(4, lambda i, k: (k - i) ** 2 + 2)
        self.assertEqual(planned(CountedLook(table), 4), ((0, 3, 6, 9, 12), (0, 0, 1, 2)))
        table = cost_table(4, lambda i, k: (k - i) ** 2 + 5)
        self.assertEqual(planned(CountedLook(table), 4), ((0, 6, 9, 14, 18), (0, 0, 0, 2)))

    def test_one_thing(self):
        for cost in (0, -5, 7, 10 ** 60):
            self.assertEqual(planned(CountedLook(((None, cost),)), 1), ((0, cost), (0,)))

    def test_two_things(self):
        self.assertEqual(planned(CountedLook(((None, 1, 5), (None, None, 3))), 2), ((0, 1, 4), (0, 1)))
        self.assertEqual(planned(CountedLook(((None, 1, 4), (None, None, 3))), 2), ((0, 1, 4), (0, 0)))
        self.assertEqual(planned(CountedLook(((None, 1, 3), (None, None, 3))), 2), ((0, 1, 3), (0, 0)))

    def test_all_small_costs(self):
        for table in all_small_costs():
            self.check(table)

    def test_it_is_the_least_of_all_plans(self):
        chance = random.Random(180)
        for _ in range(150):
            many = chance.randint(1, 8)
            table = any_costs(chance, many)
            worths, froms = self.check(table)
            for j in range(1, many + 1):
                plans = list(all_plans(j))
                least = min(plan_cost(table, plan) for plan in plans)
                self.assertEqual(worths[j], least)
                self.assertEqual(froms[j - 1], min(plan[-2] for plan in plans if plan_cost(table, plan) == least))

    def test_the_first_of_ties(self):
        self.assertEqual(planned(CountedLook(cost_table(60, lambda i, k: 0)), 60), ((0,) * 61, (0,) * 60))
        self.assertEqual(planned(CountedLook(cost_table(60, lambda i, k: k - i)), 60)[1], (0,) * 60)
        worths, froms = self.check(cost_table(60, lambda i, k: (k - i) ** 2 + 6))
        self.assertEqual(froms[:7], (0, 0, 0, 2, 2, 3, 4))

    def test_each_stretch_of_one_thing(self):
        worths, froms = self.check(cost_table(100, lambda i, k: (k - i) ** 2))
        self.assertEqual(froms, tuple(range(100)))
        self.assertEqual(worths, tuple(range(101)))

    def test_one_stretch_of_all(self):
        worths, froms = self.check(cost_table(100, lambda i, k: 10 ** 9 + (k - i) ** 2))
        self.assertEqual(froms, (0,) * 100)

    def test_costs_below_0(self):
        worths, froms = self.check(cost_table(30, lambda i, k: (k - i) ** 2 - 50))
        self.assertLess(worths[-1], 0)

    def test_any_costs(self):
        chance = random.Random(181)
        for many in list(range(1, 41)) * 4 + [63, 64, 65, 99, 100] * 12:
            worths, froms = self.check(any_costs(chance, many))
            self.assertEqual(list(froms), sorted(froms))

    def test_more_than_are_handed_in(self):
        chance = random.Random(182)
        for many in (101, 127, 128, 200, 300):
            for _ in range(6):
                self.check(any_costs(chance, many))

    def test_costs_however_great(self):
        great = 10 ** 400
        worths, froms = self.check(cost_table(20, lambda i, k: (k - i) ** 2 * great + great - k))
        self.assertEqual(plan_cost(cost_table(20, lambda i, k: (k - i) ** 2 * great + great - k), cuts_by(froms)), worths[-1])

    def test_where_new_cuts_begin_late(self):
        # Each new cut is better only near the end, or only from the middle on, so that its beginning is searched for.
        for many in (50, 64, 100):
            for weight in (1, 2, 3, many, many * many):
                self.check(cost_table(many, lambda i, k: weight * (k - i) + (k - i) * (k - i) // 2 + many * many))
                self.check(cost_table(many, lambda i, k: -weight * i * k))
                self.check(cost_table(many, lambda i, k: -i * k + weight * i * i))
                self.check(cost_table(many, lambda i, k: -i * k * (k + weight)))

    def test_the_same_is_told_again(self):
        chance = random.Random(183)
        table = any_costs(chance, 30)
        self.assertEqual(planned(CountedLook(table), 30), planned(CountedLook(table), 30))


class CutsByTest(unittest.TestCase):
    def test_told(self):
        self.assertEqual(cuts_by((0,)), (0, 1))
        self.assertEqual(cuts_by((0, 0, 1, 2)), (0, 2, 4))
        self.assertEqual(cuts_by((0, 1, 2)), (0, 1, 2, 3))
        self.assertEqual(cuts_by((0,) * 100), (0, 100))
        self.assertEqual(cuts_by(tuple(range(100))), tuple(range(101)))

    def test_they_are_a_plan_of_the_least_cost(self):
        chance = random.Random(184)
        for _ in range(100):
            many = chance.randint(1, 60)
            table = any_costs(chance, many)
            worths, froms = plain_planned(table)
            cuts = cuts_by(froms)
            self.assertIs(type(cuts), tuple)
            self.assertEqual((cuts[0], cuts[-1]), (0, many))
            self.assertEqual(list(cuts), sorted(set(cuts)))
            self.assertEqual(plan_cost(table, cuts), worths[-1])
            for one, other in zip(cuts, cuts[1:]):
                self.assertEqual(froms[other - 1], one)


if __name__ == "__main__":
    unittest.main()
