"""Papers of what bends: point 9, and of bend_paper_holds point 2."""

import itertools
import random
import unittest

from bendtables.bending import slacks
from bendtables.bendchecks import bend_paper_holds
from bendtables.bendpapers import bend_paper
from bendtables.rules import table_by
from tests.making import all_small_tables, bending_tables, copied, crooks, kinds_of, steps_right, things

BENDING = ((1, 2, 4), (2, 2, 3), (4, 3, 3))
STEPPED = ((1, 2, None), (None, 2, 3))
LACKING = ((1, None, 2), (None, None, None))
CROOKED = ((0, 0, 0), (0, 1, 1), (0, 0, 2))


def several_tables():
    yield from all_small_tables()
    yield from bending_tables(100, 6, 6, 20)
    chance = random.Random(21)
    for _ in range(100):
        lines = [[chance.choice((None, 0, 1, 2, 9)) for _ in range(4)] for _ in range(4)]
        yield tuple(tuple(line) for line in lines)


class BendPaperTest(unittest.TestCase):
    def test_told(self):
        self.assertEqual(bend_paper(BENDING), ("bends", ((1, 1), (1, 1))))
        self.assertEqual(bend_paper(STEPPED), ("bends", ((None, None),)))
        self.assertEqual(bend_paper(LACKING), ("each",))
        self.assertEqual(bend_paper(CROOKED), ("crooked", 0, 1, 0, 1))
        self.assertEqual(bend_paper(((None, 1), (1, None))), ("crooked", 0, 1, 0, 1))

    def test_one_row_and_one_column(self):
        self.assertEqual(bend_paper(((3,),)), ("bends", ()))
        self.assertEqual(bend_paper(((None,),)), ("each",))
        self.assertEqual(bend_paper(((3, 1, None),)), ("bends", ()))
        self.assertEqual(bend_paper(((3, None, 1),)), ("each",))
        self.assertEqual(bend_paper(((3,), (1,))), ("bends", ((),)))
        self.assertEqual(bend_paper(((3,), (None,))), ("each",))

    def test_several_tables(self):
        for table in several_tables():
            found = crooks(table)
            if found:
                told = ("crooked",) + found[0]
            elif steps_right(table):
                told = ("bends", slacks(table))
            else:
                told = ("each",)
            self.assertEqual(kinds_of(bend_paper(table)), kinds_of(told))
            self.assertIs(bend_paper_holds(table, bend_paper(table)), True)


class BendPaperHoldsTest(unittest.TestCase):
    def test_each_of_several_tables(self):
        for table in several_tables():
            self.assertIs(bend_paper_holds(table, ("each",)), not crooks(table))

    def test_bends_of_several_tables(self):
        for table in several_tables():
            if steps_right(table):
                self.assertIs(bend_paper_holds(table, ("bends", slacks(table))), not crooks(table))

    def test_slacks_of_a_table_that_is_not_stepped(self):
        for table in (((1, None, 2),), ((None,),), ((1, 2), (None, None)), LACKING):
            self.assertIs(bend_paper_holds(table, ("bends", slacks(table))), False, table)

    def test_any_place_of_several_tables(self):
        for table in itertools.islice(several_tables(), 0, None, 7):
            found = set(crooks(table))
            rows, columns = len(table), len(table[0])
            for i, j in itertools.product(range(-2, rows + 2), repeat=2):
                for k, l in itertools.product(range(-2, columns + 2), repeat=2):
                    self.assertIs(bend_paper_holds(table, ("crooked", i, j, k, l)), (i, j, k, l) in found)

    def test_places_far_beyond(self):
        for place in ((0, 10 ** 39, 0, 1), (0, 1, 0, 10 ** 39), (-10 ** 39, 1, 0, 1), (0, 1, -1, 1), (-3, -1, -3, -1)):
            self.assertIs(bend_paper_holds(CROOKED, ("crooked",) + place), False)

    def test_truths_for_numbers(self):
        self.assertIs(bend_paper_holds(((0, 0), (0, 1)), ("crooked", 0, 1, 0, 1)), True)
        for place in itertools.product((0, False), (1, True), (0, False), (1, True)):
            plain = not any(isinstance(part, bool) for part in place)
            self.assertIs(bend_paper_holds(((0, 0), (0, 1)), ("crooked",) + place), plain, place)
        self.assertIs(bend_paper_holds(BENDING, ("bends", ((1, 1), (1, True)))), False)
        self.assertIs(bend_paper_holds(((0, 0), (0, 0)), ("bends", ((0,),))), True)
        self.assertIs(bend_paper_holds(((0, 0), (0, 0)), ("bends", ((False,),))), False)
        self.assertIs(bend_paper_holds(STEPPED, ("bends", ((None, False),))), False)

    def test_wrong_slacks(self):
        for worth in (
            ((1, 1), (1, 2)), ((1, 1), (1, 0)), ((0, 1), (1, 1)), ((1, 1),), ((1, 1), (1, 1), (1, 1)), ((1, 1), (1,)),
            ((1, 1), (1, 1, 1)), ((1, 1), (1, None)), ((1, 1), (1, "1")), [[1, 1], [1, 1]], ([1, 1], [1, 1]), [(1, 1), (1, 1)],
            ((1, 1), [1, 1]), (), ((),), None, "", ((1, 1), (1, (1,))), {0: (1, 1), 1: (1, 1)}, ((1, 1), 1), (11, 11),
        ):
            self.assertIs(bend_paper_holds(BENDING, ("bends", worth)), False, worth)
        self.assertIs(bend_paper_holds(STEPPED, ("bends", ((None, 0),))), False)
        self.assertIs(bend_paper_holds(((1, 2),), ("bends", ((),))), False)
        self.assertIs(bend_paper_holds(((1,), (2,)), ("bends", ())), False)

    def test_wrong_forms(self):
        slack = ((1, 1), (1, 1))
        self.assertIs(bend_paper_holds(BENDING, ("bends", slack)), True)
        self.assertIs(bend_paper_holds(CROOKED, ("crooked", 0, 2, 1, 2)), True)
        for thing in (
            ["bends", slack], ("bends",), ("bends", slack, slack), ("Bends", slack), (slack,), slack, ("each", slack),
            ("crooked", slack), ["each"], "each", ("each", "each"), ("each", None), ("each", ()), {"each": 1}, (("each",),),
            (None,), (("bends",), slack),
        ):
            self.assertIs(bend_paper_holds(BENDING, thing), False, thing)
        for thing in (
            ["crooked", 0, 2, 1, 2], ("crooked", 0, 2, 1), ("crooked", 0, 2, 1, 2, 3), ("crooked", (0, 2, 1, 2)),
            ("crooked", "0", 2, 1, 2), ("crooked", 0, (2,), 1, 2), ("crooked", 0, 2, None, 2), ("crooked", 0, 2, 1, [2]),
            ("crooked",), (0, 2, 1, 2), ("bends", 0, 2, 1, 2), ("each", 0, 2, 1, 2), ("crooked", 2, 0, 1, 2), ("crooked", 0, 2, 2, 1),
            ("crooked", 0, 0, 1, 2), ("crooked", 0, 2, 1, 1), ("crooked", {}, {}, {}, {}),
        ):
            self.assertIs(bend_paper_holds(CROOKED, thing), False, thing)

    def test_things_of_other_kinds(self):
        for table in (BENDING, STEPPED, LACKING, CROOKED, ((1,),), ((None,),)):
            for thing in things():
                for paper in (thing, ("each", thing), ("crooked", thing, thing, thing, thing), (thing, 0, 2, 1, 2)):
                    before = kinds_of(copied(paper))
                    self.assertIs(bend_paper_holds(table, paper), False, paper)
                    self.assertEqual(kinds_of(paper), before)

    def test_numbers_of_a_place_of_other_kinds(self):
        paper = ("crooked", 0, 2, 1, 2)
        for at in range(1, 5):
            for thing in things():
                if isinstance(thing, bool) or not isinstance(thing, int):
                    self.assertIs(bend_paper_holds(CROOKED, paper[:at] + (thing,) + paper[at + 1:]), False, (at, thing))

    def test_slacks_of_other_kinds(self):
        for table in (BENDING, STEPPED, LACKING, CROOKED):
            for thing in things():
                self.assertIs(bend_paper_holds(table, ("bends", thing)), False, thing)

    def test_tables_of_rules(self):
        table = table_by(("square", tuple(range(100)), tuple(range(100))))
        paper = bend_paper(table)
        self.assertEqual(paper, ("bends", ((2,) * 99,) * 99))
        self.assertIs(bend_paper_holds(table, paper), True)


if __name__ == "__main__":
    unittest.main()
