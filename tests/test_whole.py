"""The whole: point 3, over all modules, each time what one module tells handed on to the next."""

import random
import unittest

from bendtables.bendchecks import bend_paper_holds
from bendtables.bending import bends, short_of, slacks
from bendtables.bendpapers import bend_paper
from bendtables.counted import planned_in, worths_by_count
from bendtables.desk import Desk
from bendtables.findings import finding_holds
from bendtables.going import stays_of
from bendtables.gonechecks import stays_holds
from bendtables.joining import bends_up, joined
from bendtables.kept import Kept
from bendtables.leasts import least_places
from bendtables.looking import least_by
from bendtables.mendchecks import mended_holds, shown_by
from bendtables.mending import mended
from bendtables.otherway import bend_of, greatest_places, negated, turned
from bendtables.placechecks import places_holds
from bendtables.planchecks import plan_holds
from bendtables.plans import cuts_by, planned
from bendtables.powers import first_way, power
from bendtables.productchecks import product_holds, way_holds
from bendtables.products import mids, product
from bendtables.rules import table_by
from bendtables.stands import Stand
from bendtables.tables import is_stepped, laid_over, stretches_of
from bendtables.texts import read_table, show_table
from bendtables.undoing import undone
from bendtables.webmaking import web_of
from bendtables.webs import web_table, web_way
from tests.making import (
    CountedLook, all_plans, altered, any_costs, any_full_table, any_row, any_web, bending_tables, cost_table, crooks, full_bending_table,
    mend_sum, plan_cost, plain_joined, plain_product, rising_row, square_bending_tables, way_length, way_sum,
)
from tests.plainfinding import plain_finding


class WholeTest(unittest.TestCase):
    def test_each_table_bends_just_where_every_two_by_two_does(self):
        chance = random.Random(1201)
        for _ in range(60):
            table = any_full_table(chance, chance.randint(1, 4), chance.randint(1, 4))
            twos = [not crooks((row[k:k + 1] + row[l:l + 1], other[k:k + 1] + other[l:l + 1]))
                    for i, row in enumerate(table) for other in table[i + 1:] for k in range(len(row)) for l in range(k + 1, len(row))]
            self.assertIs(bends(table), all(twos))
            self.assertIs(bend_paper_holds(table, bend_paper(table)), True)
            self.assertEqual(table_by(short_of(table)), table)

    def test_neighbours_show_it_of_stepped_tables(self):
        for table in bending_tables(60, 9, 9, 1202):
            self.assertIs(is_stepped(table), True)
            self.assertIs(all(slack is None or slack >= 0 for row in slacks(table) for slack in row), True)
            self.assertIs(bends(table), True)

    def test_least_places_are_found_and_read_in_few_looks(self):
        for table in bending_tables(60, 12, 12, 1203):
            stretches = stretches_of(table)
            last = stretches[-1][1] + 1
            for side in ("first", "last"):
                look, other = CountedLook(table), CountedLook(table)
                places = least_by(look, stretches, side)
                self.assertEqual(list(places), sorted(places))
                self.assertEqual(places, least_places(table, side))
                self.assertIs(places_holds(other, stretches, side, places), True)
                self.assertLessEqual(len(look.seen), 10 * len(table) + 4 * last)
                self.assertLessEqual(len(other.seen), 2 * len(table) + 2 * last)

    def test_joined_rows(self):
        chance = random.Random(1204)
        for _ in range(40):
            one, other = any_row(chance, chance.randint(1, 9)), rising_row(chance, chance.randint(1, 9))
            sums, firsts = joined(one, other)
            self.assertEqual((sums, firsts), plain_joined(one, other))
            back = undone(sums, other)
            self.assertEqual(joined(back, other)[0], sums)
            self.assertTrue(all(less <= number for less, number in zip(back, one)))
            self.assertIs(bends_up(joined(rising_row(chance, 5), other)[0]), True)

    def test_products_powers_and_ways(self):
        for table in square_bending_tables(25, 6, 1205):
            self.assertEqual((product(table, table), mids(table, table)), plain_product(table, table))
            self.assertIs(product_holds(table, table, (product(table, table), mids(table, table))), True)
            self.assertEqual(power(table, 2), product(table, table))
            self.assertIs(bends(power(table, 5)), True)
            way = first_way(table, 5, 0, len(table) - 1)
            self.assertEqual(way_sum(table, way), power(table, 5)[0][-1])
            self.assertIs(way_holds(table, 5, 0, len(table) - 1, way), True)

    def test_plans(self):
        chance = random.Random(1206)
        for _ in range(25):
            many = chance.randint(1, 7)
            costs = any_costs(chance, many)
            worths, froms = planned(CountedLook(costs), many)
            self.assertEqual(worths[-1], min(plan_cost(costs, cuts) for cuts in all_plans(many)))
            self.assertEqual(plan_cost(costs, cuts_by(froms)), worths[-1])
            self.assertIs(plan_holds(CountedLook(costs), many, (worths, froms)), True)
            row = worths_by_count(lambda i, k: costs[i][k], many)
            self.assertIs(bends_up(row), True)
            self.assertEqual(min(row), worths[-1])
            self.assertEqual([planned_in(lambda i, k: costs[i][k], many, count)[0] for count in range(1, many + 1)], list(row))
            self.assertIs(finding_holds(("plan", cost_table(many, lambda i, k: costs[i][k]), worths, froms)), True)

    def test_webs(self):
        chance = random.Random(1207)
        for _ in range(25):
            web = any_web(chance, chance.randint(1, 6), chance.randint(1, 6))
            table = web_table(web)
            self.assertIs(bends(table), True)
            for row, line in enumerate(table):
                for column, number in enumerate(line):
                    way = web_way(web, row, column)
                    self.assertEqual(None if way is None else way_length(web, row, column, way), number)
            bending = full_bending_table(chance, chance.randint(1, 12), chance.randint(1, 12))
            self.assertEqual(web_table(web_of(bending)), bending)

    def test_what_is_kept_is_what_is_made_at_once(self):
        chance = random.Random(1208)
        for _ in range(20):
            table = full_bending_table(chance, 6, 6)
            kept = Kept(table[1:2])
            for at in (0, 2, 3, 4, 5):
                kept.put_row(min(at, len(kept.table())), table[at])
            self.assertEqual((kept.table(), kept.slacks(), kept.least()), (table, slacks(table), least_places(table, "first")))

    def test_rows_that_go_and_mends(self):
        chance = random.Random(1209)
        for _ in range(25):
            table = any_full_table(chance, chance.randint(1, 12), chance.randint(1, 12))
            stays, levels = stays_of(table)
            self.assertIs(stays_holds(table, (stays, levels)), True)
            self.assertIs(bends(tuple(table[row] for row in stays)), True)
            two = any_full_table(chance, 2, chance.randint(1, 40))
            total, mend, pairs = mended(two)
            self.assertIs(mended_holds(two, (total, mend, pairs)), True)
            self.assertEqual(shown_by(two, tuple((0, 1, *pair) for pair in pairs)), total)
            # The rows of a bending table are a mend of any table of its size.
            other = full_bending_table(chance, len(table), len(table[0]))
            for place in crooks(table)[:5]:
                self.assertLessEqual(shown_by(table, (place,)), mend_sum(table, other))

    def test_products_bend_as_signs_do(self):
        for table in square_bending_tables(25, 6, 1210):
            for other in (turned(table), negated(table)):
                self.assertIn(bend_of(product(table, other)), ("other", "both"))
                self.assertIn(bend_of(product(other, other)), ("one", "both"))
                self.assertEqual(list(greatest_places(table, "last")), sorted(greatest_places(table, "last"), reverse=True))
            self.assertEqual(laid_over(laid_over(table)), table)

    def test_a_stand_tells_what_is_made_at_once_of_what_stands_now(self):
        chance = random.Random(1211)
        stand, desk = Stand(), Desk()
        one, other = any_full_table(chance, 3, 3), ((1, 2, 3), (4, 5, 6), (7, 8, 9))
        for name, made, row in (
            ("b", ("table", other), "table 1 2 3 / 4 5 6 / 7 8 9"), ("c", ("product", "b", "b"), "product b b"), ("d", ("turned", "c"), "turned c"),
            ("e", ("power", "d", 7), "power d 7"), ("f", ("over", "e"), "over e"), ("g", ("both", "f", "b"), "both f b"),
        ):
            stand.tell(name, made)
            desk.say(f"tell {name} {row}")
        for table in (other, other[::-1], one):
            stand.retell("b", ("table", table))
            right = laid_over(power(turned(product(table, table)), 7))
            self.assertEqual(stand.table("f"), right)
            self.assertEqual(stand.table("g"), table_by(("both", ("rows", right), ("rows", table))))
        stand.back(6)
        self.assertEqual(read_table(desk.say("show g").replace(" / ", "\n")), stand.table("g"))
        self.assertEqual(desk.say("show e"), show_table(stand.table("e")).replace("\n", " / "))

    def test_whatever_finding_is_let_by_is_so(self):
        chance = random.Random(1212)
        let_by = 0
        for _ in range(30):
            table = any_full_table(chance, 2, chance.randint(1, 4))
            total, mend, pairs = mended(table)
            for finding in (("mend", table, total, mend, pairs), ("gone", table, *stays_of(table)), ("paper", table, bend_paper(table))):
                for thing in list(altered(finding))[chance.randrange(7)::7]:
                    if finding_holds(thing):
                        let_by += 1
                        self.assertIs(plain_finding(thing), True, thing)
        self.assertGreater(let_by, 0)


if __name__ == "__main__":
    unittest.main()
