"""Whether mends hold, and what twos show: point 24, from "Of anything" on."""

import itertools
import random
import unittest

from bendtables.mendchecks import mended_holds, shown_by
from bendtables.mending import mended
from tests.making import (
    all_tables, altered, any_full_table, copied, crooks, is_plain_mended, kinds_of, mend_sum, plain_shown, things,
)

TWO = ((0, 0, 0, 0), (1, 5, 2, 9))
THREE = ((0, 0, 0), (0, 2, 5), (0, 1, 9))


class MendedHoldsTest(unittest.TestCase):
    def check(self, table, thing):
        before = kinds_of(copied(thing))
        right = is_plain_mended(table, thing)
        self.assertIs(mended_holds(table, thing), right, (table, thing))
        self.assertEqual(kinds_of(thing), before)
        return right

    def test_what_is_told_holds(self):
        chance = random.Random(701)
        for columns in list(range(1, 13)) * 4 + [40] * 6:
            table = any_full_table(chance, 2, columns)
            self.assertIs(self.check(table, mended(table)), True)

    def test_others_that_hold(self):
        table = ((0, 0), (0, 3))
        for mend in (((0, 0), (3, 3)), ((0, 0), (0, 0)), ((0, 3), (0, 3)), ((-3, 0), (0, 3)), ((0, 1), (1, 2)), ((-1, 1), (1, 3))):
            self.assertIs(mended_holds(table, (3, mend, ((0, 1),))), True, mend)

    def test_pairs_that_hold(self):
        table = ((0, 0, 0, 0), (0, 0, 1, 1))
        for pairs, right in (
            (((0, 2), (1, 3)), True), (((0, 3), (1, 2)), True), (((1, 2), (0, 3)), False), (((0, 2),), False), ((), False),
            (((0, 2), (0, 3)), False), (((0, 1), (0, 2), (1, 3)), False), (((0, 2), (0, 2)), False), (((2, 0), (1, 3)), False),
            (((0, 2), (1, 3), (1, 3)), False), (((0, 2), (1, 4)), False), (((-4, 2), (1, 3)), False), (((0, 2), (1, -1)), False),
        ):
            self.assertIs(mended_holds(table, (2, table[:1] + ((0, 0, 0, 0),), pairs)), right, pairs)
            self.check(table, (2, table[:1] + ((0, 0, 0, 0),), pairs))

    def test_mends_that_do_not_hold(self):
        table = ((0, 0), (0, 3))
        for thing in (
            (3, ((0, 0), (0, 1)), ((0, 1),)), (4, ((0, 0), (4, 3)), ((0, 1),)), (3, ((0, 0), (4, 3)), ((0, 1),)), (2, ((0, 0), (0, 1)), ((0, 1),)),
            (0, ((0, 0), (0, 3)), ()), (3, ((0, 0),), ((0, 1),)), (3, ((0, 0), (3, 3), (0, 0)), ((0, 1),)), (3, ((0,), (3,)), ((0, 1),)),
            (3, ((0, 0, 0), (3, 3, 0)), ((0, 1),)), (3, ((0, None), (0, 0)), ((0, 1),)), (3, ((0, 0), (3, None)), ((0, 1),)), (3, None, ((0, 1),)),
        ):
            self.assertIs(mended_holds(table, thing), False, thing)
            self.check(table, thing)

    def test_mends_of_more_than_the_least_sum(self):
        chance = random.Random(702)
        for _ in range(100):
            table = any_full_table(chance, 2, chance.randint(1, 6))
            total, mend, pairs = mended(table)
            lower = list(mend[1])
            lower[0] += 1
            other = (mend[0], tuple(lower))
            self.check(table, (mend_sum(table, other), other, pairs))
            self.check(table, (total, other, pairs))

    def test_all_that_small_tables_could_have(self):
        mends = [mend for mend in all_tables(2, 2, (0, 1, 2))]
        many_pairs = [(), ((0, 1),), ((1, 0),), ((0, 0),), ((0, 2),), ((0, 1), (0, 1))]
        for table in all_tables(2, 2, (0, 1)):
            held = 0
            for total, mend, pairs in itertools.product((-1, 0, 1, 2), mends, many_pairs):
                held += self.check(table, (total, mend, pairs))
            self.assertGreater(held, 0)

    def test_altered(self):
        for table in (TWO, ((0, 0), (0, 3)), ((5,), (6,)), ((0, 0, 0), (2, 1, 0)), ((0, 0, 0), (0, 2, 2))):
            held = 0
            for thing in altered(mended(table)):
                held += self.check(table, thing)
            self.assertLess(held, 10)

    def test_things_of_other_kinds(self):
        right = mended(TWO)
        for thing in things():
            for whole in (thing, (thing,) * 3, (thing,) + right[1:], right[:1] + (thing,) + right[2:], right[:2] + (thing,), right + (thing,)):
                self.assertIs(mended_holds(TWO, whole), kinds_of(whole) == kinds_of(right), whole)
            for pairs in ((thing,), ((0, thing),), ((thing, 1),), ((0, 1), thing)):
                self.assertIs(mended_holds(((0, 0), (0, 3)), (3, ((0, 0), (3, 3)), pairs)), kinds_of(pairs) == kinds_of(((0, 1),)), pairs)

    def test_truths_for_numbers(self):
        table = ((0, 0), (0, 1))
        self.assertIs(mended_holds(table, (1, ((0, 0), (1, 1)), ((0, 1),))), True)
        for thing in (
            (True, ((0, 0), (1, 1)), ((0, 1),)), (1, ((0, 0), (True, 1)), ((0, 1),)), (1, ((False, 0), (1, 1)), ((0, 1),)),
            (1, ((0, 0), (1, 1)), ((False, 1),)), (1, ((0, 0), (1, 1)), ((0, True),)), (1, [(0, 0), (1, 1)], ((0, 1),)),
            (1, ((0, 0), [1, 1]), ((0, 1),)), (1, ((0, 0), (1, 1)), [(0, 1)]), (1, ((0, 0), (1, 1)), ([0, 1],)), [1, ((0, 0), (1, 1)), ((0, 1),)],
        ):
            self.assertIs(mended_holds(table, thing), False, thing)
        self.assertIs(mended_holds(((0,), (0,)), (False, ((0,), (0,)), ())), False)


class ShownByTest(unittest.TestCase):
    def check(self, table, thing):
        before = kinds_of(copied(thing))
        right = plain_shown(table, thing)
        self.assertEqual(kinds_of(shown_by(table, thing)), kinds_of(right), (table, thing))
        self.assertEqual(kinds_of(thing), before)
        return right

    def test_told(self):
        self.assertEqual(shown_by(THREE, ((0, 1, 0, 2),)), 5)
        self.assertEqual(shown_by(THREE, ((0, 1, 0, 1), (1, 2, 1, 2))), None)
        self.assertEqual(shown_by(THREE, ((0, 1, 0, 1), (0, 2, 0, 2))), None)
        self.assertEqual(shown_by(TWO, ((0, 1, 0, 1), (0, 1, 2, 3))), 11)
        self.assertEqual(shown_by(TWO, ((0, 1, 2, 3), (0, 1, 0, 1))), None)
        self.assertEqual(shown_by(TWO, ((0, 1, 0, 1), (0, 1, 1, 3))), None)

    def test_none_at_all_are_twos(self):
        for table in (THREE, ((0,),), ((0, 0), (0, 0))):
            self.assertEqual(kinds_of(shown_by(table, ())), kinds_of(0))

    def test_twos_that_share_a_row_or_a_column_alone(self):
        # All of the four share rows or columns with one another, but no place of the table.
        table = tuple(tuple(i * k for k in range(4)) for i in range(4))
        twos = ((0, 1, 0, 1), (0, 1, 2, 3), (2, 3, 0, 1), (2, 3, 2, 3))
        self.assertEqual(self.check(table, twos), 4)
        self.assertEqual(self.check(table, ((0, 1, 0, 3), (0, 1, 1, 2), (0, 2, 0, 1))), None)
        self.assertEqual(self.check(table, ((0, 1, 0, 3), (0, 1, 1, 2), (2, 3, 0, 1))), 3 + 1 + 1)
        self.assertEqual(self.check(table, ((0, 1, 0, 2), (1, 2, 1, 3))), 2 + 2)

    def test_each_shared_corner(self):
        table = tuple(tuple(i * k for k in range(5)) for i in range(5))
        for twos in (
            ((0, 1, 0, 1), (0, 2, 0, 2)), ((0, 1, 0, 1), (0, 2, 1, 2)), ((0, 1, 0, 1), (1, 2, 0, 2)), ((0, 1, 0, 1), (1, 2, 1, 2)),
            ((0, 2, 0, 2), (1, 2, 1, 2)), ((0, 2, 1, 2), (1, 2, 0, 1)), ((0, 1, 0, 1), (0, 1, 0, 1)),
        ):
            self.assertIsNone(self.check(table, twos), twos)

    def test_places_where_it_is_not_crooked(self):
        for place in ((0, 1, 0, 1), (1, 2, 0, 1)):
            self.assertIsNone(shown_by(((0, 0), (0, 0), (0, 0)), (place,)))
        self.assertIsNone(shown_by(((0, 0), (0, -1)), ((0, 1, 0, 1),)))
        for place in ((1, 0, 0, 1), (0, 1, 1, 0), (0, 0, 0, 1), (0, 1, 1, 1), (0, 1, 0, 3), (0, 3, 0, 1), (-3, 1, 0, 1), (0, 1, -3, 2), (0, -1, 0, 1)):
            self.assertIsNone(shown_by(THREE, (place,)), place)

    def test_all_twos_of_small_tables(self):
        for rows, columns, numbers in ((2, 2, (0, 1, 2)), (2, 3, (0, 1)), (3, 2, (0, 1))):
            places = list(itertools.product(range(rows), range(rows), range(columns), range(columns)))
            for table in all_tables(rows, columns, numbers):
                for place in places:
                    self.check(table, (place,))
                for pair in itertools.product(crooks(table), repeat=2):
                    self.check(table, pair)

    def test_any_twos(self):
        chance = random.Random(711)
        shown = 0
        for _ in range(400):
            table = any_full_table(chance, chance.randint(2, 12), chance.randint(2, 12))
            places = crooks(table)
            thing = tuple(sorted(chance.sample(places, min(len(places), chance.randint(0, 3)))))
            shown += self.check(table, thing) is not None
        self.assertGreater(shown, 100)

    def test_no_mend_has_a_lesser_sum(self):
        for rows, columns, numbers, others in ((2, 2, (0, 1, 2), (-1, 0, 1, 2, 3)), (3, 2, (0, 1), (0, 1)), (2, 3, (0, 1), (0, 1))):
            mends = [mend for mend in all_tables(rows, columns, others) if not crooks(mend)]
            for table in all_tables(rows, columns, numbers):
                least = min(mend_sum(table, mend) for mend in mends)
                places = crooks(table)
                for many in range(3):
                    for twos in itertools.combinations(places, many):
                        shown = shown_by(table, twos)
                        self.assertTrue(shown is None or shown <= least, (table, twos))

    def test_altered(self):
        for table, twos in ((TWO, ((0, 1, 0, 1), (0, 1, 2, 3))), (THREE, ((0, 1, 0, 2),)), (THREE, ())):
            self.assertIsNotNone(self.check(table, twos))
            for thing in altered(twos):
                self.check(table, thing)

    def test_things_of_other_kinds(self):
        for thing in things():
            told = shown_by(THREE, thing)
            self.assertEqual(kinds_of(told), kinds_of(0 if kinds_of(thing) == kinds_of(()) else None), thing)
            for whole in ((thing,), (thing,) * 4, ((0, 1, 0, thing),), ((0, 1, 0, 2), thing), ((0, 1, 0, 2, thing),), ((thing, 1, 0, 2),)):
                self.check(THREE, whole)

    def test_truths_for_numbers(self):
        self.assertEqual(shown_by(THREE, ((0, 1, 0, 1),)), 2)
        for thing in (
            ((False, 1, 0, 1),), ((0, True, 0, 1),), ((0, 1, False, 1),), ((0, 1, 0, True),), [(0, 1, 0, 1)], ([0, 1, 0, 1],), (0, 1, 0, 1),
        ):
            self.assertIsNone(shown_by(THREE, thing), thing)

    def test_nothing_is_changed_and_the_same_is_told_again(self):
        table = copied(THREE)
        self.assertEqual(shown_by(table, ((0, 1, 0, 2),)), shown_by(table, ((0, 1, 0, 2),)))
        self.assertEqual(mended_holds(table[:2], mended(table[:2])), True)
        self.assertEqual(table, THREE)


if __name__ == "__main__":
    unittest.main()
