"""Texts of tables: point 6."""

import unittest

from bendtables.errors import BendError, NoText
from bendtables.texts import read_table, show_table
from tests.making import all_small_tables, copied, deep, kinds_of, things


class ShowTest(unittest.TestCase):
    def test_shown(self):
        self.assertEqual(show_table(((1, 2), (3, 4))), "1 2\n3 4")
        self.assertEqual(show_table(((0,),)), "0")
        self.assertEqual(show_table(((None,),)), ".")
        self.assertEqual(show_table(((-1, None, 10),)), "-1 . 10")
        self.assertEqual(show_table(((-10,), (None,), (200,))), "-10\n.\n200")

    def test_long_numbers(self):
        for many in (29, 30, 31, 59, 60, 61, 119, 120, 121, 3999, 4000):
            for figures in ("1" + "0" * (many - 1), "9" * many, "70" * (many // 2) + "7" * (many % 2)):
                number = int(figures)
                self.assertEqual(show_table(((number, -number),)), figures + " -" + figures)

    def test_numbers_somewhat_longer_than_asked(self):
        # int() of so many figures is refused by Python, so the number is made by reckoning.
        self.assertEqual(show_table(((10 ** 4999,),)), "1" + "0" * 4999)
        self.assertEqual(show_table(((1 - 10 ** 4500,),)), "-" + "9" * 4500)


class ReadTest(unittest.TestCase):
    def refused(self, thing):
        with self.assertRaises(NoText) as caught:
            read_table(thing)
        self.assertIsInstance(caught.exception, BendError)

    def test_read(self):
        self.assertEqual(read_table("1 2\n3 4"), ((1, 2), (3, 4)))
        self.assertEqual(read_table("0"), ((0,),))
        self.assertEqual(read_table("."), ((None,),))
        self.assertEqual(read_table(". .\n. ."), ((None, None), (None, None)))
        self.assertEqual(read_table("-1 . 10"), ((-1, None, 10),))
        self.assertEqual(read_table("\n".join("0123456789")), tuple((k,) for k in range(10)))

    def test_what_is_shown_comes_back(self):
        great = tuple(tuple(-10 ** 9 + 7 * i * k for k in range(12)) for i in range(12))
        wide = (tuple(range(40)), (None,) * 40)
        for table in list(all_small_tables()) + [great, wide]:
            again = read_table(show_table(table))
            self.assertEqual(kinds_of(again), kinds_of(table))

    def test_thirty_figures(self):
        for figures in ("1" + "0" * 29, "9" * 30):
            self.assertEqual(read_table(figures), ((int(figures),),))
            self.assertEqual(read_table("-" + figures + " 1"), ((-int(figures), 1),))

    def test_more_figures(self):
        for many in (31, 32, 40, 3999):
            self.refused("1" + "0" * (many - 1))
            self.refused("-" + "9" * many)
            self.refused("1 2\n3 " + "9" * many)
            self.refused("0" * many)

    def test_noughts_ahead(self):
        for word in ("00", "01", "007", "-0", "-00", "-01", "0 00", "1\n02"):
            self.refused(word)

    def test_signs_that_do_not_belong(self):
        for text in (
            "+1", "--1", "-", "1-", "1-2", "- 1", "-.", "..", ".1", "1.", "1.0", "1e3", "1_0", "0x1", "a", "1 a", "None",
            "1,2", "1;2", "1/2", "\u0661", "\u00b2", "1 \uff11", "\u22121", "True",
        ):
            self.refused(text)

    def test_each_sign(self):
        for sign in [chr(number) for number in range(ord(" "), ord("~") + 1)]:
            if sign in "0123456789":
                self.assertEqual(read_table(sign), ((int(sign),),))
                self.assertEqual(read_table("1" + sign), ((10 + int(sign),),))
            else:
                self.refused("1" + sign)
                self.refused(sign + "1" if sign != "-" else sign)
                if sign != ".":
                    self.refused(sign)

    def test_blanks_and_line_ends(self):
        for text in (
            "", " ", "\n", "1 ", " 1", "1  2", "1\t2", "1\n", "\n1", "1\n\n2", "1\r\n2", "1\r2", "1 \n2", "1\n 2", "1 2\n",
            "1\x0b2", "1\x0c2", "1\x1c2", "1\u20282", "1\u00a02", "\t1", "1\x00",
        ):
            self.refused(text)

    def test_rows_of_unlike_lengths(self):
        for text in ("1 2\n3", "1\n2 3", ". .\n.", "1 2\n3 4\n5", "1 2 3\n4 5 6\n7 8 9 0"):
            self.refused(text)

    def test_things_of_other_kinds(self):
        for thing in things():
            before = kinds_of(copied(thing))
            if thing != "1 2\n3 4":
                self.refused(thing)
            self.assertEqual(kinds_of(thing), before)
        for thing in (b"1", [b"1"], ["1"], ("1",), ((1,),), 1, deep("1", lambda inner: [inner], 30), {"1": "1"}):
            self.refused(thing)

    def test_long_texts(self):
        self.assertEqual(read_table("\n".join(["1"] * 2000)), ((1,),) * 2000)
        self.assertEqual(read_table(" ".join(["."] * 2000)), ((None,) * 2000,))
        self.refused(" ".join(["1"] * 1999) + " ~")


if __name__ == "__main__":
    unittest.main()
