"""A desk: point 28."""

import random
import re
import unittest

from bendtables.desk import Desk
from bendtables.errors import BendError, NoBack, NoFit, NoName, NoRow, Ring, Taken, TooMany, Used
from tests.making import any_full_table, copied, crooks, kinds_of, most_that_stay, plain_bend, plain_least, things
from tests.plainstand import PlainStand, plain_table

NUMBER = "(?:0|-?[1-9][0-9]*)"
WORD = "([^ ]*)"
LINE = f"{NUMBER}(?: {NUMBER})*"
MADES = {
    "table": re.compile(f"table ({LINE}(?: / {LINE})*)"), "both": re.compile(f"both {WORD} {WORD}"),
    "product": re.compile(f"product {WORD} {WORD}"), "power": re.compile(f"power {WORD} ({NUMBER})"),
    "over": re.compile(f"over {WORD}"), "turned": re.compile(f"turned {WORD}"),
}
ROWS = {
    "tell": re.compile(f"tell {WORD} (.*)", re.DOTALL), "retell": re.compile(f"retell {WORD} (.*)", re.DOTALL), "drop": re.compile(f"drop {WORD}"),
    "back": re.compile(f"back ({NUMBER})"), "show": re.compile(f"show {WORD}"), "bend": re.compile(f"bend {WORD}"),
    "crook": re.compile(f"crook {WORD}"), "least": re.compile(f"least {WORD} (first|last)"),
    "entry": re.compile(f"entry {WORD} ({NUMBER}) ({NUMBER})"), "stays": re.compile(f"stays {WORD}"),
}
GREAT = 10 ** 9


def plain_made(text):
    """As what a table is made, by the words of a row, None where it is not so written."""
    for kind, form in MADES.items():
        found = form.fullmatch(text)
        if found is None:
            continue
        if kind == "power":
            many = int(found[2])
            return (kind, found[1], many) if 1 <= many <= 1000 else None
        if kind != "table":
            return (kind, *found.groups())
        table = tuple(tuple(int(word) for word in line.split(" ")) for line in found[1].split(" / "))
        fits = len({len(row) for row in table}) == 1 and len(table) <= 12 and len(table[0]) <= 12
        return (kind, table) if fits and all(abs(number) <= GREAT for row in table for number in row) else None
    return None


def plain_row(text):
    """The words of a row as they are taken, None where it is no row."""
    if type(text) is not str:
        return None
    for kind, form in ROWS.items():
        found = form.fullmatch(text)
        if found is None:
            continue
        if kind in ("tell", "retell"):
            made = plain_made(found[2])
            return (kind, found[1], made) if made is not None else None
        words = found.groups()
        numbers = [int(word) for word in {"back": words, "entry": words[1:]}.get(kind, ())]
        if any(abs(number) > GREAT for number in numbers):
            return None
        return (kind, *words[:len(words) - len(numbers)], *numbers)
    return None


def plain_say(plain, text):
    """The answer of a desk with this plain stand, or the refusal."""
    row = plain_row(text)
    if row is None:
        return NoRow
    kind, *given = row
    if kind in ("tell", "retell", "drop", "back"):
        refusal = getattr(plain, kind)(*given)
        return "ok" if refusal is None else refusal[0] if isinstance(refusal, tuple) else refusal
    if not plain.stands(given[0]):
        return NoName
    table = plain_table(plain.now()[0], given[0])
    if kind == "entry" and not (0 <= given[1] < len(table) and 0 <= given[2] < len(table[0])):
        return NoRow
    places = crooks(table)
    return {
        "show": lambda: " / ".join(" ".join(str(number) for number in row) for row in table),
        "bend": lambda: plain_bend(table), "stays": lambda: str(most_that_stay(table)),
        "crook": lambda: " ".join(str(number) for number in places[0]) if places else "none",
        "least": lambda: " ".join(str(place) for place in plain_least(table, given[1])),
        "entry": lambda: str(table[given[1]][given[2]]),
    }[kind]()


class DeskCase(unittest.TestCase):
    def said(self, desk, *rows):
        for row in rows:
            self.assertEqual(desk.say(row), "ok", row)
        return desk

    def refused(self, kind, desk, text, names=("a", "b", "c")):
        """The refusal of a row, behind which all is as it was."""
        before = self.told_of(desk, names)
        handed = kinds_of(copied(text))
        with self.assertRaises(BendError) as caught:
            desk.say(text)
        self.assertIs(type(caught.exception), kind, text)
        self.assertEqual(self.told_of(desk, names), before)
        self.assertEqual(kinds_of(text), handed)
        return caught.exception

    def told_of(self, desk, names):
        """The table of each name, or that it does not stand."""
        told = []
        for name in names:
            try:
                told.append(desk.say("show " + name))
            except NoName:
                told.append(None)
        return told


class AnswersTest(DeskCase):
    def test_each_row_and_its_answer(self):
        desk = Desk()
        for row, answer in (
            ("tell a table 1 4 16 / 1 0 4 / 16 9 1", "ok"), ("show a", "1 4 16 / 1 0 4 / 16 9 1"), ("bend a", "one"), ("crook a", "none"),
            ("least a first", "0 1 2"), ("least a last", "0 1 2"), ("entry a 0 2", "16"), ("entry a 2 0", "16"), ("entry a 1 1", "0"), ("stays a", "3"),
            ("tell b turned a", "ok"), ("show b", "16 4 1 / 4 0 1 / 1 9 16"), ("bend b", "other"), ("crook b", "0 1 0 1"), ("stays b", "1"),
            ("tell c over a", "ok"), ("show c", "1 1 16 / 4 0 9 / 16 4 1"), ("tell d both a b", "ok"), ("show d", "17 8 17 / 5 0 5 / 17 18 17"),
            ("bend d", "none"), ("crook d", "0 1 0 1"), ("least d first", "1 1 0"), ("least d last", "1 1 2"), ("stays d", "1"),
            ("tell e product a a", "ok"), ("show e", "2 4 8 / 1 0 4 / 10 9 2"), ("tell f power a 3", "ok"), ("show f", "3 4 8 / 1 0 4 / 10 9 3"),
            ("tell g table -5", "ok"), ("show g", "-5"), ("bend g", "both"), ("crook g", "none"), ("least g last", "0"), ("entry g 0 0", "-5"),
            ("retell g table 0 -1", "ok"), ("show g", "0 -1"), ("retell b over c", "ok"), ("show d", "2 8 32 / 2 0 8 / 32 18 2"),
            ("drop d", "ok"), ("back 3", "ok"), ("show b", "16 4 1 / 4 0 1 / 1 9 16"), ("back 0", "ok"), ("tell a table 7", "ok"), ("show a", "7"),
        ):
            told = desk.say(row)
            self.assertEqual(kinds_of(told), kinds_of(answer), row)

    def test_least_of_several(self):
        desk = self.said(Desk(), "tell a table 2 0 0 1 / 5 5 5 5")
        self.assertEqual((desk.say("least a first"), desk.say("least a last")), ("1 0", "2 3"))

    def test_the_bounds(self):
        desk = self.said(Desk(), f"tell a table {GREAT} {-GREAT}", "tell b over a", "tell p product b a")
        self.assertEqual(desk.say("show a"), "1000000000 -1000000000")
        self.assertEqual(desk.say("show p"), "2000000000 0 / 0 -2000000000")
        line = " ".join(["0"] * 12)
        self.said(desk, "tell full table " + " / ".join([line] * 12), "tell power power full 1000", "tell pq power full 1")
        for row in (
            f"tell c table {GREAT + 1}", f"tell c table {-GREAT - 1}", "tell c table " + line + " 0", "tell c table " + " / ".join(["0"] * 13),
            "tell c table " + " / ".join([line] * 13), "tell c power full 0", "tell c power full 1001", "tell c power full -1", "tell c power full 01",
            f"back {GREAT + 1}", f"back {-GREAT - 1}", f"entry a 0 {GREAT + 1}", f"entry a {-GREAT - 1} 0", "tell c table 1" + "0" * 29,
        ):
            self.refused(NoRow, desk, row)
        self.refused(NoBack, desk, f"back {GREAT}")
        self.refused(NoBack, desk, f"back {-GREAT}")

    def test_great_answers(self):
        desk = self.said(Desk(), f"tell a table {GREAT} {GREAT} / {GREAT} {GREAT}")
        for one, other in zip("abcdefghijk", "bcdefghijkl"):
            self.said(desk, f"tell {other} power {one} 1000")
        self.assertEqual(desk.say("entry l 1 1"), "1" + "0" * 42)


class NoRowTest(DeskCase):
    def test_texts_that_are_no_rows(self):
        desk = self.said(Desk(), "tell a table 1 2 / 3 4")
        for text in (
            "", " ", "  ", "a", "show", "show a ", " show a", "show  a", "show a b", "Show a", "show\ta", "show\na", "show a a", "shows a", "table a",
            "bend", "bend a a", "crook", "crook a 0", "stays", "stays a 1", "least a", "least", "least a middle", "least a First", "least a first last", "least a ",
            "least a first ", "least a first\n", "entry a", "entry a 0", "entry a 0 0 0", "entry a 0 x", "entry a x 0", "entry a 00 0", "entry a 0 -0", "entry a +0 0",
            "entry a 0 ", "entry a  0", "entry a 0 0\n", "entry a . 0", "drop", "drop a a", "drop a ", "back", "back ", "back a", "back 0 0", "back 00", "back -0", "back 1.",
            "back 1\n", "back +1", "back 0x1", "tell", "tell b", "tell b ", "tell b table", "tell b table ", "tell b table  1", "tell b table 1 ", "tell b table 1  2",
            "tell b table .", "tell b table 1 . / 2 3", "tell b table 1 /", "tell b table / 1", "tell b table 1 / / 2", "tell b table 1/2", "tell b table 1 /2",
            "tell b table 1 2 / 3", "tell b table 1\n2", "tell b table 1 2\n3 4", "tell b table 01", "tell b table -0", "tell b table 1 2 / 3 04", "tell b table a",
            "tell b table 1\n", "tell b table --1", "tell b table - 1", "tell b table 1e1", "tell b both a", "tell b both a a a", "tell b product a", "tell b power a",
            "tell b power a x", "tell b power a 2 2", "tell b power 2 a", "tell b over", "tell b over a a", "tell b turned", "tell b turned a a", "tell b rows 1", "tell b Table 1",
            "tell b a", "retell a", "retell a table", "retell a both a", "retell", "tell both a a", "tell b table 1 \\ 2", "tell b table \u0661", "back \u0661", "back \u00b2",
        ):
            self.assertIsNone(plain_row(text), text)
            self.refused(NoRow, desk, text)

    def test_things_of_other_kinds(self):
        desk = self.said(Desk(), "tell a table 1 2 / 3 4")
        for thing in things() + [["show a"], ("show a",), {"show a": 1}, ["show", "a"], ("show", "a")]:
            self.refused(NoRow, desk, thing)

    def test_no_row_goes_first(self):
        desk = self.said(Desk(), "tell a table 1 2 / 3 4", "tell c table 1")
        for text in (
            "least z middle", "least  first last", "entry z x 0", "entry z 0 00", "tell A table 01", "tell a table 1 2 / 3", "retell z table 1 .", "retell z power z 1001",
            "tell a power c 0", "tell b both z", "retell a over a a", f"entry z {GREAT + 1} 0", "show z z", "drop z z",
        ):
            self.refused(NoRow, desk, text)

    def test_a_row_or_column_that_is_not_there_goes_behind_no_name(self):
        desk = self.said(Desk(), "tell a table 1 2 3 / 4 5 6")
        for place in ("2 0", "0 3", "-1 0", "0 -1", "2 3", f"{GREAT} 0", f"0 {-GREAT}"):
            self.refused(NoRow, desk, "entry a " + place)
            self.refused(NoName, desk, "entry b " + place)
        for row, column, number in ((0, 0, 1), (0, 2, 3), (1, 0, 4), (1, 2, 6)):
            self.assertEqual(desk.say(f"entry a {row} {column}"), str(number))


class StandRefusesTest(DeskCase):
    def test_any_word_is_taken_for_a_name(self):
        desk = self.said(Desk(), "tell a table 1 2 / 3 4")
        for word in ("", "/", "A", "a\n", "\n", "b\nc", "abcdefghi", "1", "-1", "a/", ".", "\t", "a\tb", "%", "~"):
            for text in (
                f"show {word}", f"bend {word}", f"crook {word}", f"stays {word}", f"least {word} first", f"entry {word} 0 0", f"entry {word} 9 9", f"drop {word}",
                f"tell {word} table 1", f"retell {word} table 1", f"tell b both {word} a", f"tell b both a {word}", f"tell b product {word} {word}",
                f"tell b power {word} 2", f"tell b over {word}", f"tell b turned {word}", f"retell a over {word}", f"tell a product a {word}",
            ):
                self.refused(NoName, desk, text)

    def test_the_rest_as_the_stand_refuses(self):
        desk = self.said(Desk(), "tell a table 1 2 / 3 4", "tell b over a", "tell c table 1 2 3")
        self.refused(NoName, desk, "show z")
        self.refused(NoName, desk, "tell a both a z")
        self.refused(Taken, desk, "tell a both a c")
        self.refused(NoFit, desk, "tell d both a c")
        self.refused(NoFit, desk, "tell d product a c")
        self.refused(NoFit, desk, "tell d power c 2")
        self.refused(Ring, desk, "retell a both b c")
        self.refused(NoFit, desk, "retell b both a c")
        self.assertEqual(self.refused(Used, desk, "drop a").name, "b")
        self.refused(NoBack, desk, "back 4")
        self.refused(NoBack, desk, "back -1")
        self.said(desk, "back 3")
        for name in "defghijkl":
            self.said(desk, f"tell {name} table 1")
        self.refused(NoFit, desk, "tell m both a c")
        self.refused(TooMany, desk, "tell m both a b")

    def test_refused_rows_are_no_deeds(self):
        desk = self.said(Desk(), "tell a table 1")
        self.refused(Taken, desk, "tell a table 1")
        self.refused(NoRow, desk, "tell b table 01")
        desk.say("show a")
        self.refused(NoBack, desk, "back 2")
        self.said(desk, "back 1", "tell b table 1", "back 2", "back 0")


class ByTurnsTest(DeskCase):
    def a_row(self, chance):
        name, one, other = (chance.choice("abcdefgh") for _ in range(3))
        table = any_full_table(chance, *chance.choice(((2, 2), (2, 2), (1, 2), (3, 3), (2, 3))))
        number = chance.choice((0, 0, 1, 1, 2, 3, 5, -1, 1000, 1001, 10 ** 9))
        far = chance.choice((-1, 5, 20, 40, 60, 80, 10 ** 9))
        text = " / ".join(" ".join(str(entry) for entry in row) for row in table)
        made = chance.choice((f"table {text}", f"table {text}", f"both {one} {other}", f"product {one} {other}", f"power {one} {chance.randint(1, 4)}",
                              f"over {one}", f"turned {one}", f"power {one} {0 if number > 3 else number}"))
        return chance.choice((
            f"tell {name} {made}", f"tell {name} {made}", f"tell {name} {made}", f"retell {name} {made}", f"retell {name} {made}", f"drop {name}", f"back {far}",
            f"show {name}", f"bend {name}", f"crook {name}", f"least {name} first", f"least {name} last", f"entry {name} {number} {chance.randint(0, 2)}", f"stays {name}",
        ))

    def spoilt(self, chance, text):
        """A row with one sign or word otherwise."""
        at = chance.randint(0, len(text))
        words = text.split(" ")
        word = chance.randrange(len(words))
        return chance.choice((
            text[:at] + chance.choice(" /0-.\nax") + text[at:], text[:at] + text[at + 1:], " ".join(words[:word] + words[word + 1:]),
            " ".join(words[:word] + [words[word]] + words[word:]), " ".join(words[:word] + [chance.choice(("", "/", "0", "01", "-0", "first", "a", "."))] + words[word + 1:]),
        ))

    def test_many_rows_of_two_by_turns(self):
        chance = random.Random(1001)
        seen = {}
        desks = [Desk(), Desk()]
        plains = [PlainStand(), PlainStand()]
        for _ in range(5000):
            at = chance.randrange(2)
            text = self.a_row(chance)
            if chance.random() < 0.3:
                text = self.spoilt(chance, text)
            right = plain_say(plains[at], text)
            if isinstance(right, str):
                self.assertEqual(desks[at].say(text), right, text)
            else:
                self.refused(right, desks[at], text)
            kind = (text.split(" ")[0], right if not isinstance(right, str) else "")
            seen[kind] = seen.get(kind, 0) + 1
        for kind in ("tell", "retell", "drop", "back", "show", "bend", "crook", "least", "entry", "stays"):
            self.assertGreater(seen.get((kind, ""), 0), 3, kind)
            self.assertGreater(seen.get((kind, NoRow), 0), 3, kind)

    def test_asked_again(self):
        desk = self.said(Desk(), "tell a table 1 2 / 3 4")
        for row in ("show a", "bend a", "crook a", "least a last", "entry a 1 1", "stays a"):
            self.assertEqual(desk.say(row), desk.say(row))


if __name__ == "__main__":
    unittest.main()
