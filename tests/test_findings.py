"""Findings: point 29."""

import random
import unittest

from bendtables.bendpapers import bend_paper
from bendtables.findings import finding_holds
from bendtables.going import stays_of
from bendtables.joining import joined
from bendtables.leasts import least_places
from bendtables.mendchecks import shown_by
from bendtables.mending import mended
from bendtables.plans import planned
from bendtables.products import mids, product
from bendtables.webmaking import web_of
from bendtables.webs import web_table
from tests.making import (
    all_small_costs, all_small_webs, all_tables, altered, any_costs, any_full_table, any_row, any_web, bending_tables, copied, crooks,
    full_bending_table, kinds_of, things,
)
from tests.plainfinding import KINDS, plain_finding

SQUARE = ((1, 4, 16), (1, 0, 4), (16, 9, 1))
STEPPED = ((1, 2, None), (None, 3, 4))
APART = ((1, 2), (None, None))
COSTS = ((None, 6, 9), (None, None, 6))
RIGHT = (
    ("paper", SQUARE, ("bends", ((4, 8), (6, 12)))), ("paper", SQUARE, ("each",)), ("paper", APART, ("each",)),
    ("paper", ((0, 0), (0, 1)), ("crooked", 0, 1, 0, 1)), ("paper", ((0, 0, 0), (0, 1, 1)), ("crooked", 0, 1, 0, 2)), ("paper", STEPPED, ("bends", ((None, None),))),
    ("least", SQUARE, "first", (0, 1, 2)), ("least", STEPPED, "last", (0, 1)), ("least", ((0, 0),), "first", (0,)), ("least", ((0, 0),), "last", (1,)),
    ("joined", (3, 1, 4), (2, 0, 5), (5, 3, 1, 4, 9), (0, 0, 1, 2, 2)), ("joined", (0,), (0,), (0,), (0,)),
    ("product", ((0, 3), (5, 1)), ((1, 7), (2, 2)), ((1, 5), (3, 3)), ((0, 1), (1, 1))), ("product", ((1,),), ((2, 3),), ((3, 4),), ((0, 0),)),
    ("plan", COSTS, (0, 6, 9), (0, 0)), ("plan", ((None, -7),), (0, -7), (0,)),
    ("web", ((0, 10), ((1, None), (3, 4)), ((5, 6, 7),), (100, 200, 300)), ((100, 201, None), (115, 216, 324))), ("web", ((5,), ((),), (), (7,)), ((12,),)),
    ("gone", ((0, 0), (0, 1), (0, -1)), (0, 2), (0, 0, 1)), ("gone", ((0, 0), (0, 1), (0, -1)), (1, 2), (0, 0, 1)), ("gone", ((7,),), (0,), (0,)),
    ("mend", ((0, 0), (0, 3)), 3, ((0, 0), (3, 3)), ((0, 1),)), ("mend", ((0, 0), (0, 3)), 3, ((0, 1), (1, 2)), ((0, 1),)), ("mend", ((0,), (3,)), 0, ((0,), (3,)), ()),
    ("bound", ((0, 0, 0), (0, 2, 5), (0, 1, 9)), ((0, 1, 0, 2),), 5), ("bound", ((0, 0), (0, 3)), (), 0), ("bound", ((5,),), (), 0),
)
# Each is of the right form, but not so.
WRONG = (
    ("paper", ((0, 0), (0, 1)), ("each",)), ("paper", ((0, 0), (0, 1)), ("bends", ((-1,),))), ("paper", SQUARE, ("crooked", 0, 1, 0, 1)),
    ("paper", APART, ("bends", ((None,),))), ("paper", SQUARE, ("bends", ((4, 8), (6, 11)))), ("paper", ((0, 0), (0, 1)), ("crooked", 0, 1, 1, 0)),
    ("least", ((0, 0), (0, 1)), "first", (0, 0)), ("least", APART, "first", (0, None)), ("least", ((0,), (None,)), "first", (0, None)), ("least", SQUARE, "middle", (0, 1, 2)),
    ("least", ((0, 0),), "first", (1,)), ("least", ((None, 1), (1, None)), "first", (1, 0)), ("least", SQUARE, ["first"], (0, 1, 2)), ("least", SQUARE, None, (0, 1, 2)),
    ("joined", (3, 1, 4), (2, 0, 5), (5, 3, 1, 4, 9), (0, 1, 1, 2, 2)), ("joined", (0, 0), (0,), (0, 0), (0, 0)), ("joined", (), (0,), (), ()), ("joined", (0,), (), (), ()),
    ("product", ((0, 3),), ((1, 7),), ((1, 7),), ((0, 0),)), ("product", ((0, None),), ((1,), (2,)), ((1,),), ((0,),)), ("product", ((0, 0),), ((0,), (0,)), ((0,),), ((1,),)),
    ("product", ((0,),), ((None,),), ((None,),), ((0,),)), ("product", ((0,),) * 3, ((0,) * 3,), ((0, 0),) * 2, ((0, 0),) * 2),
    ("plan", ((0, 6, 9), (None, None, 6)), (0, 6, 9), (0, 0)), ("plan", ((None, 6), (None, None)), (0, 6, 6), (0, 0)), ("plan", ((None, 6, 9),), (0, 6), (0,)),
    ("plan", ((None, 6, None), (None, None, 6)), (0, 6, 12), (0, 1)), ("plan", ((None, 0, 0, -9), (None, None, 0, 0), (None, None, None, 0)), (0, 0, 0, -9), (0, 0, 0)),
    ("plan", COSTS, (0, 6, 12), (0, 1)), ("plan", ((None, None),), (0, 0), (0,)), ("web", ((0, 10), ((1,), (3,)), ((5, 6),), (100, 200, 300)), ((100, 201), (115, 216))),
    ("web", ((5,), ((),), (), (7,)), ((13,),)), ("web", ((5, 5), ((), ()), ((None,),), (7,)), ((12,), (12,))), ("web", ((5,), ((),), (), (7,)), ((12, 12),)),
    ("gone", ((0, 0), (0, None)), (0, 1), (0, 1)), ("gone", ((0, 0), (0, 1), (0, -1)), (0, 1), (0, 0, 1)), ("gone", ((0, 0), (0, -1)), (0,), (0, 0)),
    ("mend", ((0, 0),), 0, ((0, 0),), ()), ("mend", ((0, 0),) * 3, 0, ((0, 0),) * 3, ()), ("mend", ((0, 0), (0, 3)), 4, ((0, 0), (4, 3)), ((0, 1),)),
    ("mend", ((0, None), (0, 3)), 3, ((0, 0), (3, 3)), ((0, 1),)), ("mend", ((0, 0), (0, 3)), 0, ((0, 0), (0, 3)), ()),
    ("bound", ((0, 0), (0, 3)), ((0, 1, 0, 1),), 2), ("bound", ((0, 0), (0, 3)), ((0, 1, 0, 1),) * 2, 6), ("bound", ((0, 0), (0, 0)), ((0, 1, 0, 1),), 0),
    ("bound", ((0, 0), (0, 3)), ((0, 1, 1, 0),), None), ("bound", ((0, 0), (0, 3)), (), None), ("bound", ((0, None),), (), 0), ("bound", ((0, 0), (0, 3)), (), 1),
)


class FindingHoldsTest(unittest.TestCase):
    def check(self, thing):
        before = kinds_of(copied(thing))
        right = plain_finding(thing)
        self.assertIs(finding_holds(thing), right, thing)
        self.assertEqual(kinds_of(thing), before)
        return right

    def test_that_hold(self):
        for finding in RIGHT:
            self.assertIs(finding_holds(finding), True, finding)
            self.check(finding)
        self.assertEqual({finding[0] for finding in RIGHT}, set(KINDS))

    def test_that_do_not_hold(self):
        for finding in WRONG:
            self.assertIs(finding_holds(finding), False, finding)
            self.check(finding)
        self.assertEqual({finding[0] for finding in WRONG}, set(KINDS))

    def test_with_one_thing_otherwise(self):
        for finding in RIGHT:
            for thing in altered(finding):
                self.check(thing)

    def test_parts_left_out_or_one_too_many(self):
        for finding in RIGHT:
            for at in range(len(finding)):
                self.assertIs(finding_holds(finding[:at] + finding[at + 1:]), False)
            for more in (0, None, (), finding[-1]):
                self.assertIs(finding_holds(finding + (more,)), False)
            self.assertIs(finding_holds(list(finding)), False)
            self.assertIs(finding_holds((finding,)), False)
            for kind in list(KINDS) + ["", "Paper", "webs", None, 0, ["paper"], ("paper",), {}]:
                self.check((kind,) + finding[1:])

    def test_things_of_other_kinds(self):
        for thing in things():
            self.assertIs(finding_holds(thing), False, thing)
        for finding in RIGHT[::2]:
            for thing in things():
                for at in range(len(finding)):
                    whole = finding[:at] + (thing,) + finding[at + 1:]
                    self.assertIs(finding_holds(whole), plain_finding(whole), whole)
        for kind, (many, holds) in KINDS.items():
            for thing in things():
                self.assertIs(finding_holds((kind,) + (thing,) * many), False)
            for given in range(6):
                self.assertIs(finding_holds((kind,) + ((),) * given), False)
                self.assertIs(finding_holds((kind,) + (((0,),),) * given), plain_finding((kind,) + (((0,),),) * given))

    def test_truths_for_numbers(self):
        for thing in (
            ("paper", ((True, 4), (1, 0)), ("each",)), ("paper", SQUARE, ("bends", ((4, 8), (6, True)))), ("paper", ((0, 0), (0, 1)), ("crooked", False, 1, 0, 1)),
            ("least", SQUARE, "first", (False, True, 2)), ("least", ((False, 1),), "first", (0,)), ("joined", (0,), (0,), (False,), (0,)), ("joined", (0,), (0,), (0,), (False,)),
            ("joined", (True,), (0,), (1,), (0,)), ("product", ((1,),), ((0,),), ((True,),), ((0,),)), ("product", ((1,),), ((0,),), ((1,),), ((False,),)),
            ("product", ((True,),), ((0,),), ((1,),), ((0,),)), ("plan", ((None, 1),), (0, True), (0,)), ("plan", ((None, 1),), (False, 1), (0,)),
            ("plan", ((None, 1),), (0, 1), (False,)), ("plan", ((None, True),), (0, 1), (0,)), ("web", ((1,), ((),), (), (0,)), ((True,),)), ("web", ((True,), ((),), (), (0,)), ((1,),)),
            ("gone", ((1,),), (False,), (0,)), ("gone", ((1,),), (0,), (False,)), ("gone", ((True,),), (0,), (0,)), ("mend", ((0,), (1,)), False, ((0,), (1,)), ()),
            ("mend", ((0,), (1,)), 0, ((0,), (True,)), ()), ("mend", ((0, 0), (0, 1)), 1, ((0, 0), (1, 1)), ((0, True),)), ("bound", ((0, 0), (0, 1)), ((0, 1, 0, 1),), True),
            ("bound", ((0, 0), (0, 1)), ((0, True, 0, 1),), 1), ("bound", ((0,),), (), False),
        ):
            self.assertIs(finding_holds(thing), False, thing)

    def test_of_small_tables(self):
        for rows, columns in ((1, 2), (2, 1), (2, 2)):
            for table in all_tables(rows, columns, (None, 0, 1)):
                for paper in (("each",), ("crooked", 0, 1, 0, 1), bend_paper(table)):
                    self.check(("paper", table, paper))
                for side in ("first", "last"):
                    self.check(("least", table, side, least_places(table, side)))
                self.check(("gone", table, (0,), (0,) * rows))
                self.check(("bound", table, (), 0))
                self.check(("mend", table, 0, table, ()))

    def test_of_small_costs_and_webs(self):
        for costs in all_small_costs():
            self.assertIs(finding_holds(("plan", costs, *planned(lambda i, k: costs[i][k], len(costs)))), True)
        for web in list(all_small_webs())[::5]:
            self.assertIs(self.check(("web", web, web_table(web))), True)

    def findings_told(self, chance):
        """Findings of each kind as the program tells them, with whether they hold."""
        sizes = [chance.randint(1, 12) for _ in range(3)]
        full = any_full_table(chance, sizes[0], sizes[1])
        bending = full_bending_table(chance, sizes[0], sizes[1])
        other = any_full_table(chance, sizes[1], sizes[2])
        two = any_full_table(chance, 2, chance.randint(1, 40))
        one, row = any_row(chance, chance.randint(1, 60)), any_row(chance, chance.randint(1, 60))
        costs = any_costs(chance, chance.randint(1, 12))
        web = any_web(chance, chance.randint(1, 12), chance.randint(1, 12))
        stepped = next(bending_tables(1, 12, 12, chance.random()))
        twos = tuple(crooks(full)[:1])
        return (
            ("paper", full, bend_paper(full)), ("paper", bending, bend_paper(bending)), ("paper", stepped, bend_paper(stepped)),
            ("least", stepped, "first", least_places(stepped, "first")), ("least", bending, "last", least_places(bending, "last")),
            ("joined", one, row, *joined(one, row)), ("product", full, other, product(full, other), mids(full, other)),
            ("plan", costs, *planned(lambda i, k: costs[i][k], len(costs))), ("web", web, web_table(web)), ("web", web_of(bending), bending),
            ("gone", full, *stays_of(full)), ("gone", bending, *stays_of(bending)), ("mend", two, *mended(two)), ("bound", full, twos, shown_by(full, twos)),
        )

    def test_what_is_told_holds(self):
        chance = random.Random(1101)
        for _ in range(40):
            for finding in self.findings_told(chance):
                self.assertIs(finding_holds(finding), True, finding)

    def test_any_findings_with_one_thing_otherwise(self):
        chance = random.Random(1102)
        for _ in range(12):
            sizes = [chance.randint(1, 3) for _ in range(3)]
            full, other = any_full_table(chance, sizes[0], sizes[1]), any_full_table(chance, sizes[1], sizes[2])
            two = any_full_table(chance, 2, 3)
            web = any_web(chance, sizes[0], sizes[1])
            costs = any_costs(chance, sizes[0])
            for finding in (
                ("paper", full, bend_paper(full)), ("product", full, other, product(full, other), mids(full, other)), ("gone", full, *stays_of(full)),
                ("mend", two, *mended(two)), ("web", web, web_table(web)), ("plan", costs, *planned(lambda i, k: costs[i][k], len(costs))),
                ("least", costs, "first", least_places(costs, "first")), ("bound", full, tuple(crooks(full)[:1]), shown_by(full, tuple(crooks(full)[:1]))),
            ):
                self.assertIs(self.check(finding), True, finding)
                for thing in list(altered(finding))[chance.randrange(5)::5]:
                    self.check(thing)

    def test_great_ones(self):
        long = tuple(range(900))
        self.assertIs(finding_holds(("joined", long, long, (), ())), False)
        self.assertIs(finding_holds(("product", tuple((number,) for number in long), (long,), ((0,),), ((0,),))), False)
        self.assertIs(finding_holds(("paper", tuple((number,) for number in long), ("each",))), True)
        self.assertIs(finding_holds(("gone", (long,), (0,), (0,))), True)
        self.assertIs(finding_holds(("paper", (long, long), ("crooked", 0, 1, 0, 899))), False)
        self.assertIs(finding_holds(("web", ((0,), ((0,) * 899,), (), (0,) * 900), ((0,),))), False)


if __name__ == "__main__":
    unittest.main()
