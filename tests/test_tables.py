"""Tables: point 4, and of is_table point 2."""

import unittest

from bendtables.tables import is_full, is_stepped, is_table, laid_over, size_of, stretches_of
from tests.making import all_small_tables, copied, kinds_of, plain_stretches, steps_right, things

WIDE = (tuple(range(40)), (None,) * 40)
GREAT = tuple(tuple(10 ** 9 - i * k for k in range(12)) for i in range(12))


class IsTableTest(unittest.TestCase):
    def test_tables(self):
        for table in (
            ((0,),), ((None,),), ((1, 2),), ((1,), (2,)), ((1, None), (None, -3)), ((None, None), (None, None)),
            WIDE, GREAT, ((10 ** 40, -10 ** 9),), ((0,),) * 2000, ((0,) * 3998,),
        ):
            self.assertIs(is_table(table), True, table)

    def test_all_small_tables(self):
        for table in all_small_tables():
            self.assertIs(is_table(table), True)

    def test_things_of_other_kinds(self):
        for thing in things():
            self.assertIs(is_table(thing), False, thing)

    def test_a_truth_is_no_number(self):
        for table in (((True,),), ((False,),), ((1, 2), (3, False)), ((None, True),)):
            self.assertIs(is_table(table), False, table)

    def test_lists_are_no_tuples(self):
        for table in ([[1]], ([1],), [(1,)], ((1,), [2]), ((1, [2]),), {0: (1,)}, ({0: 1},)):
            self.assertIs(is_table(table), False, table)

    def test_rows_are_of_one_length_and_not_empty(self):
        for table in ((), ((),), ((), ()), ((1,), (1, 2)), ((1, 2), (1,)), ((1,), ()), ((), (1,))):
            self.assertIs(is_table(table), False, table)

    def test_texts_are_no_rows_and_no_numbers(self):
        for table in ("1", ("1",), (("1",),), ("12", "34"), ((1, "2"), (3, 4))):
            self.assertIs(is_table(table), False, table)

    def test_nothing_is_changed(self):
        for thing in things():
            before = kinds_of(copied(thing))
            is_table(thing)
            self.assertEqual(kinds_of(thing), before)


class SizeTest(unittest.TestCase):
    def test_size(self):
        self.assertEqual(size_of(((1, 2, 3), (4, 5, None))), (2, 3))
        self.assertEqual(size_of(((None,),)), (1, 1))
        self.assertEqual(size_of(((1,), (2,), (3,))), (3, 1))
        self.assertEqual(size_of(WIDE), (2, 40))
        self.assertIs(type(size_of(GREAT)), tuple)


class FullTest(unittest.TestCase):
    def test_full(self):
        for table in all_small_tables():
            self.assertIs(is_full(table), not any(None in row for row in table))

    def test_nought_is_a_number(self):
        self.assertIs(is_full(((0, 0), (0, 0))), True)
        self.assertIs(is_full(WIDE), False)


class SteppedTest(unittest.TestCase):
    def test_all_small_tables(self):
        for table in all_small_tables():
            self.assertIs(is_stepped(table), steps_right(table), table)

    def test_each_full_one_is(self):
        self.assertIs(is_stepped(GREAT), True)

    def test_a_row_of_none_alone(self):
        self.assertIs(is_stepped(((None,),)), False)
        self.assertIs(is_stepped(((1, 2), (None, None))), False)
        self.assertIs(is_stepped(WIDE), False)

    def test_a_gap(self):
        self.assertIs(is_stepped(((1, None, 2),)), False)
        self.assertIs(is_stepped(((None, 1, 0, None),)), True)

    def test_first_and_last_never_step_left(self):
        self.assertIs(is_stepped(((1, 2, None), (None, 3, 4))), True)
        self.assertIs(is_stepped(((1, 2, 3), (4, 5, None))), False)
        self.assertIs(is_stepped(((None, 2, 3), (4, 5, 6))), False)
        self.assertIs(is_stepped(((1, None, None), (None, None, 2))), True)

    def test_stretches(self):
        self.assertEqual(stretches_of(((1, 2, None), (None, 3, 4), (None, None, 5))), ((0, 1), (1, 2), (2, 2)))
        for table in all_small_tables():
            if steps_right(table):
                self.assertEqual(stretches_of(table), plain_stretches(table))
                self.assertEqual(kinds_of(stretches_of(table)), kinds_of(plain_stretches(table)))


class LaidOverTest(unittest.TestCase):
    def test_laid_over(self):
        self.assertEqual(laid_over(((1, 2, None), (4, 5, 6))), ((1, 4), (2, 5), (None, 6)))
        self.assertEqual(laid_over(((1, 2),)), ((1,), (2,)))
        self.assertEqual(laid_over(((1,), (2,))), ((1, 2),))

    def test_it_is_a_table_and_goes_back(self):
        for table in list(all_small_tables()) + [WIDE, GREAT]:
            over = laid_over(table)
            self.assertTrue(is_table(over))
            self.assertEqual(size_of(over), size_of(table)[::-1])
            self.assertEqual(laid_over(over), table)


if __name__ == "__main__":
    unittest.main()
