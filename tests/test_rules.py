"""Rules: point 5, and of is_rule point 2."""

import random
import unittest

from bendtables.bending import bends
from bendtables.rules import entry, is_rule, rule_size, table_by
from bendtables.tables import is_table
from tests.making import all_small_tables, copied, crooks, deep, kinds_of, things

ROWS = ("rows", ((1, None), (3, 4)))
APART = ("apart", (1, 5), (2, 9))
SQUARE = ("square", (1, 5), (2, 9))
SHORT = ("short", (3, 5), (3, 7), ((2,),))
BOTH = ("both", ROWS, APART)


def plain(rule, row, column):
    """Point 5, word by word."""
    kind = rule[0]
    if kind == "rows":
        return rule[1][row][column]
    if kind == "apart":
        return abs(rule[1][row] - rule[2][column])
    if kind == "square":
        return (rule[1][row] - rule[2][column]) ** 2
    if kind == "short":
        less = sum(rule[3][i][k] for i in range(row) for k in range(column))
        return rule[1][row] + rule[2][column] - rule[1][0] - less
    one, other = plain(rule[1], row, column), plain(rule[2], row, column)
    return None if one is None or other is None else one + other


def some_rule(chance, rows, columns, depth, most):
    """A rule of a size, with sums as deep as asked."""
    if depth > 1:
        inner = chance.randint(1, depth - 1)
        halves = [some_rule(chance, rows, columns, depth - 1, most), some_rule(chance, rows, columns, inner, most)]
        chance.shuffle(halves)
        return ("both", halves[0], halves[1])
    number = lambda: chance.randint(-most, most)
    kind = chance.choice(("rows", "apart", "square", "short"))
    if kind == "rows":
        lines = [[None if chance.random() < 0.2 else number() for _ in range(columns)] for _ in range(rows)]
        return ("rows", tuple(tuple(line) for line in lines))
    one, other = [number() for _ in range(rows)], [number() for _ in range(columns)]
    if kind != "short":
        return (kind, tuple(one), tuple(other))
    other[0] = one[0]
    lines = [[number() for _ in range(columns - 1)] for _ in range(rows - 1)]
    return ("short", tuple(one), tuple(other), tuple(tuple(line) for line in lines))


def some_rules():
    chance = random.Random(5)
    for _ in range(300):
        rows, columns = chance.randint(1, 6), chance.randint(1, 6)
        yield some_rule(chance, rows, columns, chance.randint(1, 4), chance.choice((1, 10, 10 ** 9)))


class IsRuleTest(unittest.TestCase):
    def test_rules(self):
        for rule in (
            ROWS, APART, SQUARE, SHORT, BOTH, ("both", BOTH, BOTH), ("both", SHORT, ("both", SQUARE, BOTH)),
            ("apart", (0,), (0,)), ("square", (10 ** 39,), (-1, 0)), ("short", (1,), (1,), ()), ("short", (1, 2), (1,), ((),)),
            ("short", (1,), (1, 2), ()), ("short", (0, 1, 2), (0, 4), ((1,), (-2,))), ("rows", ((None,),)),
        ):
            self.assertIs(is_rule(rule), True, rule)

    def test_some_rules(self):
        for rule in some_rules():
            self.assertIs(is_rule(rule), True, rule)

    def test_sums_deeper_than_those_that_are_handed_in(self):
        self.assertIs(is_rule(deep(("apart", (1,), (2,)), lambda inner: ("both", inner, ("rows", ((3,),))), 28)), True)
        self.assertIs(is_rule(deep(("apart", (1,), (2,)), lambda inner: ("both", ("rows", ((3,),)), inner), 28)), True)
        self.assertIs(is_rule(deep(("apart", (1,), (2,)), lambda inner: ("both", inner, ("rows", ((3, 3),))), 28)), False)
        self.assertIs(is_rule(deep(("apart", (1,), (True,)), lambda inner: ("both", ("rows", ((3,),)), inner), 28)), False)

    def test_things_of_other_kinds(self):
        for thing in things():
            self.assertIs(is_rule(thing), False, thing)
            for rule in (
                ("rows", thing), ("apart", thing, (1,)), ("apart", (1,), thing), ("square", thing, (1,)), ("square", (1,), thing),
                ("short", thing, (1, 2), ((1,),)), ("short", (1, 2), thing, ((1,),)),
                ("both", thing, APART), ("both", APART, thing), (thing, (1,), (1,)), (thing, (1,)), (thing,),
                (thing, (1,), (1,), ()),
            ):
                self.assertIs(is_rule(rule), False, rule)

    def test_takes_of_other_kinds(self):
        for takes in things() + [((True,),), ((None,),), [[1]], ([1],), [(1,)], ((1, 2),), ((1,), (1,)), ((),), ()]:
            self.assertIs(is_rule(("short", (1, 2), (1, 2), takes)), False, takes)

    def test_tables_are_no_rules_and_the_like(self):
        for table in all_small_tables():
            self.assertIs(is_rule(table), False)

    def test_wrong_forms(self):
        for rule in (
            ["rows", ((1,),)], ["apart", (1,), (1,)], ("apart", [1], (1,)), ("apart", (1,), [1]), ("rows", [[1]]),
            ("rows", ((1,),), ((1,),)), ("rows", (1,)), ("apart", (1,)), ("apart", (1,), (1,), (1,)), ("apart", (), (1,)),
            ("apart", (1,), ()), ("apart", (None,), (1,)), ("apart", (1,), (True,)), ("square", (False,), (1,)),
            ("square", (1,), (None,)), ("square", (1,)), ("square", (1,), (), ()),
            ("Rows", ((1,),)), ("row", ((1,),)), ("", (1,), (1,)), (None, (1,), (1,)), (("rows",), ((1,),)),
            ("short", (1, 2), (1, 2)), ("short", (1, 2), (1, 2), ((1,),), ()), ("short", (), (), ()),
            ("short", (1, 2), (2, 2), ((1,),)), ("short", (1, 2), (1, 2), ()), ("short", (1, True), (1, 2), ((1,),)),
            ("short", (1, 2), (1, None), ((1,),)), ("short", (1, 2), (1,), ()), ("short", (1, 2), (1,), ((1,),)),
            ("short", (1,), (1, 2), ((1,),)), ("short", (1,), (True,), ()), ("short", (True,), (1,), ()),
            ("short", (True,), (True,), ()), ("long", (1,), (1,), ()), ("rows", (1,), (1,), ()), ("both", (1,), (1,), ()),
            ("both", ROWS), ("both", ROWS, APART, APART), ("both",), ["both", ROWS, APART], ("both", ROWS, ["rows", ((1,),)]),
            ("both", ("apart", (1,), (1, 2)), ("apart", (1, 2), (1,))), ("both", ("apart", (1,), (1, 2)), ("apart", (1,), (1,))),
            ("both", BOTH, ("both", ("rows", ((1,),)), ("rows", ((1,),)))), ("both", BOTH, ("both", ROWS)),
        ):
            self.assertIs(is_rule(rule), False, rule)

    def test_nothing_is_changed(self):
        for thing in things() + [("both", thing, ROWS) for thing in things()]:
            before = kinds_of(copied(thing))
            is_rule(thing)
            self.assertEqual(kinds_of(thing), before)


class RuleTableTest(unittest.TestCase):
    def test_entries(self):
        self.assertEqual(table_by(ROWS), ROWS[1])
        self.assertEqual(table_by(APART), ((1, 8), (3, 4)))
        self.assertEqual(table_by(SQUARE), ((1, 64), (9, 16)))
        self.assertEqual(table_by(SHORT), ((3, 7), (5, 7)))
        self.assertEqual(table_by(BOTH), ((2, None), (6, 8)))
        self.assertEqual(table_by(("both", APART, ROWS)), ((2, None), (6, 8)))
        self.assertEqual(entry(BOTH, 0, 1), None)
        self.assertEqual(entry(BOTH, 1, 0), 6)

    def test_all_by_plain_reckoning(self):
        for rule in some_rules():
            rows, columns = rule_size(rule)
            table = table_by(rule)
            self.assertTrue(is_table(table))
            told = tuple(tuple(plain(rule, row, column) for column in range(columns)) for row in range(rows))
            self.assertEqual(table, told)
            for row in range(rows):
                for column in range(columns):
                    self.assertEqual(entry(rule, row, column), told[row][column])

    def test_size(self):
        self.assertEqual(rule_size(("rows", ((1, 2, 3), (4, 5, 6)))), (2, 3))
        self.assertEqual(rule_size(("apart", (1, 2), (1, 2, 3))), (2, 3))
        self.assertEqual(rule_size(("square", (1,), (1, 2, 3))), (1, 3))
        self.assertEqual(rule_size(("short", (1, 2, 3), (1,), ((), ()))), (3, 1))
        self.assertEqual(rule_size(("both", ("apart", (1, 2), (1, 2, 3)), ("square", (1, 2), (1, 2, 3)))), (2, 3))
        self.assertEqual(rule_size(("both", BOTH, BOTH)), (2, 2))

    def test_the_greatest(self):
        chance = random.Random(6)
        rule = some_rule(chance, 100, 100, 4, 10 ** 9)
        short = ("short", tuple(range(100)), tuple(range(0, 300, 3)), (tuple(range(99)),) * 99)
        for one in (rule, short):
            self.assertEqual(rule_size(one), (100, 100))
            table = table_by(one)
            for row, column in ((0, 0), (0, 99), (99, 0), (99, 99), (50, 33), (98, 99)):
                self.assertEqual(table[row][column], plain(one, row, column))
                self.assertEqual(entry(one, row, column), plain(one, row, column))

    def test_which_bend(self):
        chance = random.Random(7)
        for _ in range(100):
            rows, columns = chance.randint(1, 5), chance.randint(1, 5)
            one = tuple(sorted(chance.randint(-9, 9) for _ in range(rows)))
            other = tuple(sorted(chance.randint(-9, 9) for _ in range(columns)))
            takes = tuple(tuple(chance.randint(0, 3) for _ in range(columns - 1)) for _ in range(rows - 1))
            column = (7,) + tuple(chance.randint(-9, 9) for _ in range(rows - 1))
            row = (7,) + tuple(chance.randint(-9, 9) for _ in range(columns - 1))
            rules = [("apart", one, other), ("square", one, other), ("short", column, row, takes)]
            rules.append(("both", rules[0], ("both", rules[1], rules[2])))
            for rule in rules:
                self.assertEqual(crooks(table_by(rule)), [])
                self.assertIs(bends(table_by(rule)), True)

    def test_which_do_not_bend(self):
        self.assertIs(bends(table_by(("apart", (5, 1), (1, 5)))), False)
        self.assertIs(bends(table_by(("square", (1, 5), (5, 1)))), False)
        self.assertIs(bends(table_by(("short", (0, 0), (0, 0), ((-1,),)))), False)


if __name__ == "__main__":
    unittest.main()
