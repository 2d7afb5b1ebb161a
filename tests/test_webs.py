"""Webs: point 20."""

import itertools
import random
import unittest

from bendtables.webs import is_web, web_table, web_way
from tests.making import (
    all_small_webs, altered, any_web, copied, crooks, is_plain_web, kinds_of, plain_web_table, things, way_length, web_ways,
)

GREAT = 10 ** 9
ONE_KNOT = ((5,), ((),), (), (7,))
WEB = ((0, 10), ((1, 2), (3, 4)), ((5, 6, 7),), (100, 200, 300))


def best_ways(web, column):
    """For each knot the least length and the first text to where a column goes out; from there on backwards."""
    ins, rights, ups, outs = web
    best = {(0, column): (0, "")}
    for row in range(len(ins)):
        for at in range(column, -1, -1):
            found = [best[(row, at)]] if (row, at) in best else []
            if at < column and (row, at + 1) in best and rights[row][at] is not None:
                length, way = best[(row, at + 1)]
                found.append((length + rights[row][at], "r" + way))
            if row > 0 and (row - 1, at) in best and ups[row - 1][at] is not None:
                length, way = best[(row - 1, at)]
                found.append((length + ups[row - 1][at], "u" + way))
            if found:
                best[(row, at)] = min(found)
    return best


class IsWebTest(unittest.TestCase):
    def test_webs(self):
        for web in (ONE_KNOT, WEB, ((1, 2), ((), ()), ((None,),), (0,)), ((1,), ((2, None),), (), (0, 0, 0))):
            self.assertIs(is_web(web), True, web)

    def test_all_sizes(self):
        chance = random.Random(210)
        for rows in range(1, 13):
            for columns in range(1, 13):
                self.assertIs(is_web(any_web(chance, rows, columns)), True)

    def test_more_than_are_handed_in(self):
        chance = random.Random(211)
        self.assertIs(is_web(any_web(chance, 20, 30)), True)
        self.assertIs(is_web(((10 ** 39,), ((-10 ** 39,),), (), (0, 10 ** 39))), True)

    def test_where_links_lack(self):
        self.assertIs(is_web(((0, 0), ((None,), (None,)), ((None, None),), (0, 0))), True)
        self.assertIs(is_web(((None, 0), ((1,), (1,)), ((1, 1),), (0, 0))), False)
        self.assertIs(is_web(((0, 0), ((1,), (1,)), ((1, 1),), (0, None))), False)

    def test_parts_of_other_lengths(self):
        for rows, columns in ((1, 1), (1, 3), (3, 1), (2, 2), (2, 3)):
            for lengths in itertools.product((-1, 0, 1), repeat=4):
                right_rows, right_columns, up_rows, up_columns = (
                    max(0, lengths[0] + rows), max(0, lengths[1] + columns - 1),
                    max(0, lengths[2] + rows - 1), max(0, lengths[3] + columns),
                )
                web = ((0,) * rows, ((0,) * right_columns,) * right_rows, ((0,) * up_columns,) * up_rows, (0,) * columns)
                right = (right_rows, right_columns, up_rows) == (rows, columns - 1, rows - 1)
                self.assertIs(is_web(web), right and (up_rows == 0 or up_columns == columns), web)

    def test_nothing_is_no_web(self):
        for thing in (((), (), (), ()), ((), (), (), (0,)), ((0,), ((),), (), ()), ((0,), (), (), (0,)), ((0,), ((),), ((),), (0,))):
            self.assertIs(is_web(thing), False, thing)

    def test_one_part_altered(self):
        for web in (ONE_KNOT, ((0, 1), ((), ()), ((0,),), (1,)), ((0,), ((0, 1),), (), (1, 0, 1)), WEB):
            for thing in altered(web):
                # Another number, or none for a link, makes another web.
                if is_plain_web(thing):
                    continue
                self.assertIs(is_web(thing), False, thing)
            self.assertIs(is_web(web), True)

    def test_other_webs_are_let_by(self):
        for web in (ONE_KNOT, WEB, ((0, 1), ((), ()), ((0,),), (1,))):
            for thing in altered(web):
                self.assertIs(is_web(thing), is_plain_web(thing), thing)

    def test_things_of_other_kinds(self):
        for thing in things():
            before = kinds_of(copied(thing))
            for whole in (thing, (thing,) * 4, (thing, ((),), (), (7,)), ((5,), thing, (), (7,)), ((5,), ((),), (), thing)):
                self.assertIs(is_web(whole), is_plain_web(whole), whole)
            self.assertIs(is_web(thing), False, thing)
            self.assertEqual(kinds_of(thing), before)

    def test_truths_for_numbers(self):
        for thing in (
            ((True,), ((),), (), (7,)), ((5,), ((),), (), (False,)), ((5,), ((True,),), (), (7, 8)), ((5, 6), ((), ()), ((False,),), (7,)),
        ):
            self.assertIs(is_web(thing), False, thing)

    def test_lists_for_tuples(self):
        self.assertIs(is_web(list(WEB)), False)
        for at in range(4):
            self.assertIs(is_web(WEB[:at] + (list(WEB[at]),) + WEB[at + 1:]), False)
        self.assertIs(is_web(((0, 10), ([1, 2], (3, 4)), ((5, 6, 7),), (100, 200, 300))), False)
        self.assertIs(is_web(((0, 10), ((1, 2), (3, 4)), ([5, 6, 7],), (100, 200, 300))), False)


class WebTableTest(unittest.TestCase):
    def check(self, web):
        right = plain_web_table(web)
        self.assertEqual(kinds_of(web_table(web)), kinds_of(right), web)
        self.assertEqual(crooks(right), [])

    def test_told(self):
        self.assertEqual(web_table(WEB), ((100, 201, 303), (115, 216, 318)))

    def test_one_knot(self):
        self.assertEqual(web_table(ONE_KNOT), ((12,),))

    def test_one_row_and_one_column(self):
        self.assertEqual(web_table(((1,), ((2, -3),), (), (10, 20, 30))), ((11, 23, 30),))
        self.assertEqual(web_table(((1, 2, 3), ((), (), ()), ((10,), (20,)), (100,))), ((101,), (112,), (133,)))

    def test_links_that_lack(self):
        self.assertEqual(web_table(((0,), ((None, 1),), (), (5, 6, 7))), ((5, None, None),))
        self.assertEqual(web_table(((0, 0, 0), ((), (), ()), ((None,), (1,)), (5,))), ((5,), (None,), (None,)))
        self.assertEqual(web_table(((0, 0), ((None,), (4,)), ((None, 3),), (5, 6))), ((5, None), (None, 13)))
        self.assertEqual(web_table(((0, 0), ((None,), (None,)), ((None, None),), (1, 2))), ((1, None), (None, None)))

    def test_all_small_webs(self):
        for web in all_small_webs():
            self.check(web)

    def test_any_webs(self):
        chance = random.Random(212)
        for _ in range(150):
            self.check(any_web(chance, chance.randint(1, 5), chance.randint(1, 5)))

    def test_twelve_rows_and_columns(self):
        chance = random.Random(213)
        for rows, columns in ((12, 12), (1, 12), (12, 1), (11, 12), (12, 5)) * 6:
            web = any_web(chance, rows, columns)
            told = web_table(web)
            self.assertEqual((len(told), {len(line) for line in told}), (rows, {columns}))
            for column in range(columns):
                best = best_ways(web, column)
                for row in range(rows):
                    length = best[(row, 0)][0] + web[0][row] + web[3][column] if (row, 0) in best else None
                    self.assertEqual(told[row][column], length)
            self.assertEqual(crooks(told), [])

    def test_lengths_below_0_and_great_ones(self):
        self.assertEqual(web_table(((-GREAT, GREAT), ((-GREAT,), (GREAT,)), ((-GREAT, GREAT),), (-GREAT, GREAT))),
                         ((-2 * GREAT, -GREAT), (-GREAT, 0)))

    def test_nothing_is_changed_and_the_same_is_told_again(self):
        web = copied(WEB)
        self.assertEqual(web_table(web), web_table(web))
        self.assertEqual(web_way(web, 1, 2), web_way(web, 1, 2))
        self.assertEqual(web, WEB)


class WebWayTest(unittest.TestCase):
    def check(self, web):
        for row in range(len(web[0])):
            for column in range(len(web[3])):
                ways = web_ways(web, row, column)
                least = min((length for way, length in ways), default=None)
                right = [way for way, length in ways if length == least][0] if ways else None
                self.assertEqual(web_way(web, row, column), right, (web, row, column))

    def test_told(self):
        self.assertEqual(web_way(WEB, 1, 2), "urr")
        self.assertEqual(web_way(WEB, 0, 2), "rr")
        self.assertEqual(web_way(WEB, 1, 0), "u")

    def test_no_links_at_all(self):
        self.assertEqual(web_way(ONE_KNOT, 0, 0), "")
        self.assertEqual(web_way(WEB, 0, 0), "")
        self.assertEqual(web_way(((0, 0), ((None,), (None,)), ((None, None),), (1, 2)), 0, 0), "")

    def test_ways_that_lack(self):
        web = ((0, 0), ((None,), (4,)), ((None, 3),), (5, 6))
        self.assertIsNone(web_way(web, 0, 1))
        self.assertIsNone(web_way(web, 1, 0))
        self.assertEqual(web_way(web, 1, 1), "ru")

    def test_the_first_of_several(self):
        zeros = ((0,) * 12, ((0,) * 11,) * 12, ((0,) * 12,) * 11, (0,) * 12)
        for row, column in ((0, 0), (11, 11), (3, 7), (11, 0), (0, 11)):
            self.assertEqual(web_way(zeros, row, column), "r" * column + "u" * row)
        # Where the first link right leads nowhere, or is too long, the way goes up first.
        self.assertEqual(web_way(((0, 0), ((0,), (0,)), ((0, None),), (0, 0)), 1, 1), "ur")
        self.assertEqual(web_way(((0, 0), ((0,), (1,)), ((0, 0),), (0, 0)), 1, 1), "ur")
        self.assertEqual(web_way(((0, 0), ((0,), (0,)), ((0, 1),), (0, 0)), 1, 1), "ur")
        self.assertEqual(web_way(((0, 0), ((1,), (0,)), ((0, 1),), (0, 0)), 1, 1), "ru")

    def test_all_small_webs(self):
        for web in all_small_webs():
            self.check(web)

    def test_any_webs(self):
        chance = random.Random(214)
        for _ in range(150):
            self.check(any_web(chance, chance.randint(1, 5), chance.randint(1, 5)))

    def test_twelve_rows_and_columns(self):
        chance = random.Random(215)
        for rows, columns in ((12, 12), (1, 12), (12, 1), (12, 7)) * 8:
            web = any_web(chance, rows, columns)
            told = web_table(web)
            for column in range(columns):
                best = best_ways(web, column)
                for row in range(rows):
                    way = web_way(web, row, column)
                    self.assertEqual(way, best[(row, 0)][1] if (row, 0) in best else None)
                    if way is not None:
                        self.assertEqual(way_length(web, row, column, way), told[row][column])


if __name__ == "__main__":
    unittest.main()
