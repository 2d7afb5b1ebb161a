"""A stand: point 27."""

import random
import unittest

from bendtables.errors import BendError, NoBack, NoFit, NoName, Ring, Taken, TooMany, Used
from bendtables.powers import power
from bendtables.stands import Stand
from tests.making import any_full_table, copied, kinds_of, things
from tests.plainstand import PlainStand

ONE = ("table", ((0, 3), (5, 1)))
OTHER = ("table", ((1, 7), (2, 2)))
LONG = ("table", ((1, 2, 3),))
NAMES = "abcdefghijkl"


def told_of(stand):
    names = stand.names()
    return (stand.deeds(), names, tuple((stand.table(name), stand.made(name), stand.times(name)) for name in names))


class StandCase(unittest.TestCase):
    def done(self, stand, *deeds):
        """Does deeds, each of which tells None."""
        for kind, *given in deeds:
            self.assertIsNone(getattr(stand, kind)(*given))
        return stand

    def refused(self, kind, stand, deed, *given):
        """The refusal of a deed, behind which all is as it was."""
        before = kinds_of(told_of(stand))
        handed = kinds_of(copied(given))
        with self.assertRaises(BendError) as caught:
            getattr(stand, deed)(*given)
        self.assertIs(type(caught.exception), kind, given)
        self.assertEqual(kinds_of(told_of(stand)), before)
        self.assertEqual(kinds_of(given), handed)
        return caught.exception

    def times(self, stand):
        return {name: stand.times(name) for name in stand.names()}


class MadeTest(StandCase):
    def test_nothing_at_first(self):
        stand = Stand()
        self.assertEqual((stand.deeds(), stand.names()), (0, ()))

    def test_each_way_of_making(self):
        stand = self.done(Stand(), ("tell", "a", ONE), ("tell", "b", OTHER), ("tell", "c", LONG))
        for name, made, table in (
            ("sum", ("both", "a", "b"), ((1, 10), (7, 3))), ("least", ("product", "a", "b"), ((1, 5), (3, 3))),
            ("thrice", ("power", "a", 3), ((0, 3), (5, 3))), ("over", ("over", "a"), ((0, 5), (3, 1))), ("high", ("over", "c"), ((1,), (2,), (3,))),
            ("turned", ("turned", "c"), ((3, 2, 1),)), ("twice", ("both", "a", "a"), ((0, 6), (10, 2))), ("same", ("product", "a", "a"), ((0, 3), (5, 2))),
            ("outer", ("product", "high", "c"), ((2, 3, 4), (3, 4, 5), (4, 5, 6))),
        ):
            self.done(stand, ("tell", name, made))
            self.assertEqual(kinds_of((stand.table(name), stand.made(name), stand.times(name))), kinds_of((table, made, 1)))
        self.assertEqual(stand.names(), ("a", "b", "c", "sum", "least", "thrice", "over", "high", "turned", "twice", "same", "outer"))
        self.assertEqual(stand.deeds(), 12)

    def test_powers_of_1_and_1000(self):
        stand = self.done(Stand(), ("tell", "a", ONE), ("tell", "p", ("power", "a", 1)), ("tell", "q", ("power", "a", 1000)))
        self.assertEqual(stand.table("p"), ONE[1])
        self.assertEqual(stand.table("q"), power(ONE[1], 1000))
        self.assertEqual(self.done(stand, ("retell", "a", OTHER)).table("q"), ((1000, 1006), (1001, 1007)))

    def test_tables_of_one_place_and_of_twelve(self):
        chance = random.Random(901)
        for rows, columns in ((1, 1), (12, 12), (1, 12), (12, 1)):
            table = any_full_table(chance, rows, columns)
            stand = self.done(Stand(), ("tell", "a", ("table", table)), ("tell", "b", ("over", "a")), ("tell", "c", ("product", "a", "b")))
            self.assertEqual((len(stand.table("c")), len(stand.table("c")[0])), (rows, rows))

    def test_the_tables_need_not_bend(self):
        self.assertEqual(self.done(Stand(), ("tell", "a", ("table", ((0, 0), (0, 9))))).table("a"), ((0, 0), (0, 9)))


class NameTest(StandCase):
    def test_names_of_one_to_eight_letters(self):
        stand = Stand()
        for name in ("a", "z", "az", "abcdefgh", "zzzzzzzz", "table", "over"):
            self.done(stand, ("tell", name, ONE))
        for name in ("", "abcdefghi", "A", "aB", "a1", "1", "a b", " a", "a ", "a\n", "\n", "a-b", "a_b", "`", "{", "/"):
            self.refused(NoName, stand, "tell", name, ONE)

    def test_names_of_anything(self):
        stand = self.done(Stand(), ("tell", "a", ONE), ("tell", "b", ONE))
        for thing in things() + [["a"], ("a",), {"a": 1}, ["b", "a"]]:
            if type(thing) is str and thing in ("rows", "each", "bends"):
                continue
            self.refused(NoName, stand, "tell", thing, ONE)
            self.refused(NoName, stand, "retell", thing, ONE)
            self.refused(NoName, stand, "drop", thing)
            for ask in ("table", "made", "times"):
                self.refused(NoName, stand, ask, thing)
            for made in (
                ("both", thing, "a"), ("both", "a", thing), ("product", thing, "a"), ("product", "a", thing), ("power", thing, 2),
                ("over", thing), ("turned", thing), ("both", thing, thing),
            ):
                self.refused(NoName, stand, "tell", "c", made)
                self.refused(NoName, stand, "retell", "b", made)

    def test_names_that_do_not_stand(self):
        stand = self.done(Stand(), ("tell", "a", ONE))
        for ask in ("table", "made", "times", "drop"):
            self.refused(NoName, stand, ask, "b")
        self.refused(NoName, stand, "retell", "b", ONE)
        self.refused(NoName, stand, "tell", "b", ("over", "b"))
        self.refused(NoName, stand, "tell", "b", ("both", "a", "c"))
        self.refused(NoName, stand, "retell", "a", ("both", "a", "c"))
        self.done(stand, ("drop", "a"))
        for ask in ("table", "made", "times", "drop"):
            self.refused(NoName, stand, ask, "a")


class TellTest(StandCase):
    def test_taken(self):
        stand = self.done(Stand(), ("tell", "a", ONE))
        self.refused(Taken, stand, "tell", "a", ONE)
        self.refused(Taken, stand, "tell", "a", OTHER)
        self.refused(Taken, stand, "tell", "a", ("over", "a"))

    def test_no_fit(self):
        stand = self.done(Stand(), ("tell", "a", ONE), ("tell", "c", LONG))
        for made in (("both", "a", "c"), ("both", "c", "a"), ("product", "a", "c"), ("product", "c", "a"), ("product", "c", "c"), ("power", "c", 1), ("power", "c", 7)):
            self.refused(NoFit, stand, "tell", "d", made)

    def test_as_many_places_but_another_size(self):
        stand = self.done(Stand(), ("tell", "c", LONG), ("tell", "d", ("over", "c")))
        self.refused(NoFit, stand, "tell", "e", ("both", "c", "d"))

    def test_a_twelfth_and_a_thirteenth(self):
        stand = Stand()
        for name in NAMES:
            self.done(stand, ("tell", name, ONE))
        self.assertEqual(stand.names(), tuple(NAMES))
        self.refused(TooMany, stand, "tell", "m", ONE)
        self.refused(TooMany, stand, "tell", "m", ("over", "a"))
        self.done(stand, ("retell", "l", ("over", "a")), ("drop", "b"), ("tell", "m", ONE))
        self.assertEqual(stand.names(), tuple("acdefghijklm"))
        self.refused(TooMany, stand, "tell", "b", ONE)

    def test_several_refusals(self):
        stand = Stand()
        for name in NAMES[:-1]:
            self.done(stand, ("tell", name, ONE))
        self.done(stand, ("tell", "l", LONG))
        self.refused(NoName, stand, "tell", "", ("both", "a", "l"))
        self.refused(NoName, stand, "tell", "a", ("both", "a", "zz"))
        self.refused(NoName, stand, "tell", "m", ("both", "l", "zz"))
        self.refused(NoName, stand, "tell", "m", ("power", "zz", 1))
        self.refused(Taken, stand, "tell", "a", ("both", "a", "l"))
        self.refused(NoFit, stand, "tell", "m", ("both", "a", "l"))
        self.refused(TooMany, stand, "tell", "m", ("both", "a", "b"))


class RetellTest(StandCase):
    def test_keeps_its_place_in_the_order(self):
        stand = self.done(Stand(), ("tell", "a", ONE), ("tell", "b", OTHER), ("retell", "a", OTHER))
        self.assertEqual((stand.names(), stand.table("a"), stand.made("a"), stand.deeds()), (("a", "b"), OTHER[1], OTHER, 3))

    def test_of_later_ones(self):
        stand = self.done(Stand(), ("tell", "a", ONE), ("tell", "b", OTHER), ("tell", "c", LONG), ("retell", "a", ("product", "b", "b")))
        self.assertEqual(stand.table("a"), ((2, 8), (3, 4)))
        self.done(stand, ("tell", "d", ("over", "c")), ("retell", "b", ("product", "d", "c")))
        self.assertEqual(stand.table("b"), ((2, 3, 4), (3, 4, 5), (4, 5, 6)))
        self.assertEqual(stand.table("a"), ((4, 5, 6), (5, 6, 7), (6, 7, 8)))
        self.assertEqual(self.times(stand), {"a": 3, "b": 2, "c": 1, "d": 1})

    def test_a_ring(self):
        stand = self.done(Stand(), ("tell", "a", ONE), ("tell", "b", ("over", "a")), ("tell", "c", ("both", "a", "b")), ("tell", "d", ("power", "c", 2)), ("tell", "e", ONE))
        for name, made in (
            ("a", ("over", "a")), ("a", ("over", "b")), ("a", ("both", "e", "d")), ("a", ("both", "d", "e")), ("a", ("turned", "c")), ("b", ("power", "d", 3)),
            ("b", ("product", "e", "b")), ("d", ("power", "d", 1)), ("c", ("product", "e", "d")), ("c", ("both", "c", "c")),
        ):
            self.refused(Ring, stand, "retell", name, made)
        self.done(stand, ("retell", "e", ("over", "d")))
        self.refused(Ring, stand, "retell", "a", ("turned", "e"))

    def test_a_ring_by_later_ones(self):
        stand = self.done(Stand(), ("tell", "a", ONE), ("tell", "b", ONE), ("tell", "c", ONE), ("retell", "a", ("over", "b")), ("retell", "b", ("over", "c")))
        self.refused(Ring, stand, "retell", "c", ("over", "a"))
        self.refused(Ring, stand, "retell", "c", ("turned", "b"))
        self.done(stand, ("retell", "a", OTHER), ("retell", "c", ("over", "a")))
        self.assertEqual(stand.table("b"), OTHER[1])
        self.assertEqual(self.times(stand), {"a": 4, "b": 3, "c": 2})

    def test_no_fit(self):
        stand = self.done(Stand(), ("tell", "a", ONE), ("tell", "b", ONE), ("tell", "c", LONG))
        self.refused(NoFit, stand, "retell", "a", ("both", "b", "c"))
        self.refused(NoFit, stand, "retell", "a", ("power", "c", 2))

    def test_what_uses_it_would_not_fit(self):
        stand = self.done(Stand(), ("tell", "a", ONE), ("tell", "b", ("over", "a")), ("tell", "c", ("turned", "b")), ("tell", "d", ("power", "c", 2)))
        self.refused(NoFit, stand, "retell", "a", LONG)
        stand = self.done(Stand(), ("tell", "a", ONE), ("tell", "b", ONE), ("tell", "c", ("both", "a", "b")))
        self.refused(NoFit, stand, "retell", "a", LONG)
        self.refused(NoFit, stand, "retell", "b", LONG)
        self.done(stand, ("retell", "c", ("over", "a")), ("retell", "a", LONG))
        self.assertEqual(stand.table("c"), ((1,), (2,), (3,)))

    def test_several_refusals(self):
        stand = self.done(Stand(), ("tell", "a", ONE), ("tell", "b", ("over", "a")), ("tell", "c", LONG))
        self.refused(NoName, stand, "retell", "a", ("both", "a", "zz"))
        self.refused(NoName, stand, "retell", "zz", ("both", "a", "c"))
        self.refused(Ring, stand, "retell", "a", ("both", "b", "c"))
        self.refused(Ring, stand, "retell", "a", ("both", "c", "a"))


class DropTest(StandCase):
    def test_drop(self):
        stand = self.done(Stand(), ("tell", "a", ONE), ("tell", "b", OTHER), ("tell", "c", LONG), ("drop", "b"))
        self.assertEqual((stand.names(), stand.deeds()), (("a", "c"), 4))
        self.done(stand, ("tell", "b", LONG))
        self.assertEqual((stand.names(), stand.table("b")), (("a", "c", "b"), LONG[1]))

    def test_used_by_the_first_in_order(self):
        stand = self.done(Stand(), ("tell", "a", ONE), ("tell", "c", ("over", "a")), ("tell", "b", ("both", "c", "a")), ("tell", "d", ("power", "b", 2)))
        self.assertEqual(self.refused(Used, stand, "drop", "a").name, "c")
        self.assertEqual(self.refused(Used, stand, "drop", "c").name, "b")
        self.assertEqual(self.refused(Used, stand, "drop", "b").name, "d")
        self.done(stand, ("retell", "c", OTHER))
        self.assertEqual(self.refused(Used, stand, "drop", "a").name, "b")
        self.done(stand, ("drop", "d"), ("drop", "b"), ("drop", "a"), ("drop", "c"))
        self.assertEqual((stand.names(), stand.deeds()), ((), 9))

    def test_used_by_one_that_came_ahead(self):
        stand = self.done(Stand(), ("tell", "a", ONE), ("tell", "b", ONE), ("tell", "c", ("over", "b")), ("retell", "a", ("turned", "b")))
        self.assertEqual(self.refused(Used, stand, "drop", "b").name, "a")


class BackTest(StandCase):
    def test_to_each_number_of_deeds(self):
        deeds = (
            ("tell", "a", ONE), ("tell", "b", ("over", "a")), ("retell", "a", OTHER), ("tell", "c", LONG), ("drop", "b"), ("retell", "a", LONG),
            ("drop", "c"), ("tell", "b", ("both", "a", "a")),
        )
        right = [told_of(Stand())]
        stand = Stand()
        for deed in deeds:
            right.append(told_of(self.done(stand, deed)))
        for many in range(len(deeds) + 1):
            stand = self.done(Stand(), *deeds, ("back", many))
            self.assertEqual(kinds_of(told_of(stand)), kinds_of(right[many]))
            self.refused(NoBack, stand, "back", many + 1)
            self.done(stand, *deeds[many:])
            self.assertEqual(kinds_of(told_of(stand)), kinds_of(right[-1]))

    def test_to_all_to_more_and_below_0(self):
        stand = self.done(Stand(), ("back", 0))
        self.refused(NoBack, stand, "back", 1)
        self.done(stand, ("tell", "a", ONE), ("tell", "b", ONE), ("back", 2))
        self.assertEqual((stand.deeds(), stand.names()), (2, ("a", "b")))
        for many in (3, 4, 10 ** 39, -1, -2, -3, -10 ** 39, True, False):
            self.refused(NoBack, stand, "back", many)
        self.done(stand, ("back", 0))
        self.assertEqual((stand.deeds(), stand.names()), (0, ()))
        self.refused(NoBack, stand, "back", 1)

    def test_what_is_gone_does_not_come_back(self):
        stand = self.done(Stand(), ("tell", "a", ONE), ("tell", "b", ONE), ("back", 1), ("tell", "c", ONE))
        self.assertEqual((stand.deeds(), stand.names()), (2, ("a", "c")))
        self.done(stand, ("back", 2))
        self.assertEqual(stand.names(), ("a", "c"))

    def test_what_is_refused_and_back_are_no_deeds(self):
        stand = self.done(Stand(), ("tell", "a", ONE))
        self.refused(Taken, stand, "tell", "a", ONE)
        self.refused(NoName, stand, "drop", "b")
        self.done(stand, ("back", 1), ("back", 1))
        self.assertEqual(stand.deeds(), 1)


class TimesTest(StandCase):
    def test_told_and_retold(self):
        stand = self.done(Stand(), ("tell", "a", ONE), ("retell", "a", ONE), ("retell", "a", OTHER))
        self.assertEqual(stand.times("a"), 3)

    def test_once_though_used_twice_over(self):
        stand = self.done(
            Stand(), ("tell", "a", ONE), ("tell", "b", ("over", "a")), ("tell", "c", ("turned", "a")), ("tell", "d", ("both", "b", "c")),
            ("tell", "e", ("both", "d", "d")), ("tell", "f", ONE),
        )
        self.done(stand, ("retell", "a", OTHER))
        self.assertEqual(self.times(stand), {"a": 2, "b": 2, "c": 2, "d": 2, "e": 2, "f": 1})
        self.done(stand, ("retell", "b", ("over", "f")))
        self.assertEqual(self.times(stand), {"a": 2, "b": 3, "c": 2, "d": 3, "e": 3, "f": 1})
        self.done(stand, ("retell", "f", OTHER))
        self.assertEqual(self.times(stand), {"a": 2, "b": 4, "c": 2, "d": 4, "e": 4, "f": 2})

    def test_told_or_dropped_others_make_nothing_anew(self):
        stand = self.done(Stand(), ("tell", "a", ONE), ("tell", "b", ("over", "a")), ("tell", "c", ("over", "b")), ("drop", "c"))
        self.assertEqual(self.times(stand), {"a": 1, "b": 1})

    def test_since_it_came(self):
        stand = self.done(Stand(), ("tell", "a", ONE), ("retell", "a", OTHER), ("drop", "a"), ("tell", "a", ONE))
        self.assertEqual(stand.times("a"), 1)

    def test_behind_back_as_it_was_then(self):
        stand = self.done(Stand(), ("tell", "a", ONE), ("tell", "b", ("over", "a")), ("retell", "a", OTHER), ("retell", "a", ONE))
        self.assertEqual(self.times(stand), {"a": 3, "b": 3})
        self.done(stand, ("back", 3))
        self.assertEqual(self.times(stand), {"a": 2, "b": 2})
        self.assertEqual(stand.table("b"), ((1, 2), (7, 2)))
        self.done(stand, ("back", 2))
        self.assertEqual((self.times(stand), stand.table("b")), ({"a": 1, "b": 1}, ((0, 5), (3, 1))))

    def test_refused_ones_make_nothing_anew(self):
        stand = self.done(Stand(), ("tell", "a", ONE), ("tell", "b", ("power", "a", 2)))
        self.refused(NoFit, stand, "retell", "a", LONG)
        self.refused(Ring, stand, "retell", "a", ("over", "b"))
        self.assertEqual(self.times(stand), {"a": 1, "b": 1})


class ByTurnsTest(StandCase):
    def a_made(self, chance):
        kind = chance.choice(("table", "table", "both", "product", "power", "over", "turned"))
        if kind == "table":
            rows, columns = chance.choice(((2, 2), (2, 2), (2, 2), (1, 2), (2, 1), (3, 3)))
            return ("table", any_full_table(chance, rows, columns))
        one, other = chance.choice(NAMES), chance.choice(NAMES[:5])
        if kind in ("both", "product"):
            return chance.choice(((kind, one, other), (kind, other, one)))
        return (kind, one, chance.choice((1, 2, 3, 7))) if kind == "power" else (kind, other)

    def a_deed(self, chance, deeds):
        kind = chance.choice(("tell",) * 9 + ("retell",) * 9 + ("drop", "back"))
        name = chance.choice(NAMES + "m") if chance.random() < 0.97 else chance.choice(("", "A", "abcdefghi"))
        if kind == "back":
            return ("back", max(deeds - chance.choice((0, 1, 2, 3)), -1) if chance.random() < 0.9 else chance.choice((-1, deeds + 1, 0)))
        return ("drop", name) if kind == "drop" else (kind, name, self.a_made(chance))

    def step(self, chance, stand, plain):
        kind, *given = self.a_deed(chance, plain.deeds())
        refusal = getattr(plain, kind)(*given)
        if refusal is None:
            self.done(stand, (kind, *given))
        elif isinstance(refusal, tuple):
            self.assertEqual(self.refused(Used, stand, kind, *given).name, refusal[1])
        else:
            self.refused(refusal, stand, kind, *given)
        return (kind, refusal)

    def test_many_deeds_of_two_by_turns(self):
        chance = random.Random(902)
        seen = set()
        for _ in range(12):
            stands = [Stand(), Stand()]
            plains = [PlainStand(), PlainStand()]
            for name in NAMES[:9]:
                for stand in stands + plains:
                    self.assertIsNone(stand.tell(name, ONE))
            for _ in range(90):
                at = chance.randrange(2)
                seen.add(self.step(chance, stands[at], plains[at]))
                for stand, plain in zip(stands, plains):
                    self.assertEqual(kinds_of(told_of(stand)), kinds_of(plain.told()))
        kinds = {(kind, refusal[0] if isinstance(refusal, tuple) else refusal) for kind, refusal in seen}
        for pair in (
            ("tell", NoName), ("tell", Taken), ("tell", NoFit), ("tell", TooMany), ("retell", NoName), ("retell", Ring), ("retell", NoFit),
            ("drop", NoName), ("drop", Used), ("back", NoBack), ("tell", None), ("retell", None), ("drop", None), ("back", None),
        ):
            self.assertIn(pair, kinds)

    def test_asked_again_nothing_is_changed(self):
        stand = self.done(Stand(), ("tell", "a", ONE), ("tell", "b", ("over", "a")))
        self.assertEqual(told_of(stand), told_of(stand))
        self.assertEqual(told_of(stand), (2, ("a", "b"), ((((0, 3), (5, 1)), ONE, 1), (((0, 5), (3, 1)), ("over", "a"), 1))))


if __name__ == "__main__":
    unittest.main()
