import string
import time
import unittest

from stridelots import errors, yard as module
from stridelots.books.doing import done
from stridelots.counts.fewest import fewest
from stridelots.counts.many import many_led
from stridelots.errors import Barred, Few, Full, NoDeed, NoName, StrideError, TooMany
from stridelots.papers.looker import barred_shown
from stridelots.ways.led import led
from stridelots.yard import LIMIT, Yard
from tests.samples import (
    GREATEST, done_by_hand, exchanged, is_plain, mixed, some_books, some_deeds, some_standings,
    turned_over, unlike_standing,
)

ROW = ("row", 6)
BOOK = (("swap", 2, 0), ("swap", 1, 1))
ONE = tuple((name, 0) for name in "abcdef")
TWO = (("a", 0),) * 5 + (("b", 1),)
DEEDS = ((0, 0), (1, 3), (0, 2), (1, 0))
OTHERS = [
    "NoStanding", "NoBook", "NoDeed", "NoTurning", "NotEven", "NoRound", "NoPair", "Barred",
    "TooMany", "Few", "NoPlan", "NoName", "Full",
]


class Kept(unittest.TestCase):
    def shown(self, yard):
        """All that a yard tells."""
        names = yard.names()
        self.assertIs(type(names), list)
        self.assertEqual(names, sorted(set(names)))
        self.assertEqual(len(yard), len(names))
        self.assertIsNone(yard.busy)
        stands = yard.stands()
        self.assertIs(type(stands), dict)
        self.assertEqual(sorted(stands), names)
        for name in names:
            self.assertEqual(yard.standing(name), stands[name])
            self.assertIs(type(yard.standing(name)), tuple)
            self.assertIs(type(yard.log(name)), tuple)
            self.assertTrue(is_plain(yard.log(name)))
        return stands, {name: yard.log(name) for name in names}

    def refused(self, yard, kind, field, value, call, *handed, **how):
        with self.subTest(call=call.__name__, handed=str(handed)[:200], how=how):
            before = self.shown(yard)
            with self.assertRaises(kind) as caught:
                call(*handed, **how)
            self.assertIs(type(caught.exception), kind)
            self.assertIsInstance(caught.exception, StrideError)
            self.assertIsInstance(caught.exception, ValueError)
            for name in OTHERS:
                if name != kind.__name__:
                    self.assertNotIsInstance(caught.exception, getattr(errors, name))
            if field is not None:
                self.assertEqual(getattr(caught.exception, field), value)
                self.assertIs(type(getattr(caught.exception, field)), type(value))
            self.assertEqual(self.shown(yard), before)
        return caught.exception


class Yards(Kept):
    def test_limit(self):
        self.assertEqual(LIMIT, 150000)
        self.assertIs(type(module.LIMIT), int)

    def test_an_empty_one(self):
        yard = Yard(ROW, BOOK)
        self.assertIsNone(yard.busy)
        self.assertEqual(len(yard), 0)
        self.assertEqual(yard.names(), [])
        self.assertEqual(yard.stands(), {})

    def test_put(self):
        yard = Yard(ROW, BOOK)
        self.assertIsNone(yard.put("b", ONE))
        self.assertEqual(self.shown(yard), ({"b": ONE}, {"b": ()}))
        self.assertIsNone(yard.put("a", TWO))
        self.assertEqual(yard.names(), ["a", "b"])
        self.assertEqual(self.shown(yard), ({"a": TWO, "b": ONE}, {"a": (), "b": ()}))

    def test_put_anew(self):
        yard = Yard(ROW, BOOK)
        yard.put("a", ONE)
        yard.do("a", DEEDS)
        self.assertEqual(yard.log("a"), DEEDS)
        yard.put("a", TWO)
        self.assertEqual(self.shown(yard), ({"a": TWO}, {"a": ()}))
        self.refused(yard, Few, "many", 0, yard.undo, "a")

    def test_do(self):
        yard = Yard(ROW, BOOK)
        yard.put("a", ONE)
        due = done_by_hand(ROW, BOOK, ONE, DEEDS)
        told = yard.do("a", DEEDS)
        self.assertEqual(told, due)
        self.assertIs(type(told), tuple)
        self.assertEqual(self.shown(yard), ({"a": due}, {"a": DEEDS}))
        due = done_by_hand(ROW, BOOK, due, DEEDS[:1])
        self.assertEqual(yard.do("a", DEEDS[:1], back=False), due)
        self.assertEqual(yard.log("a"), DEEDS + DEEDS[:1])
        self.assertEqual(yard.do("a", ()), due)
        self.assertEqual(yard.do("a", (), back=True), due)
        self.assertEqual(self.shown(yard), ({"a": due}, {"a": DEEDS + DEEDS[:1]}))

    def test_do_back(self):
        yard = Yard(ROW, BOOK)
        yard.put("a", ONE)
        due = done_by_hand(ROW, BOOK, ONE, DEEDS[::-1])
        self.assertEqual(yard.do("a", DEEDS, back=True), due)
        # Noted in the order in which they were done.
        self.assertEqual(self.shown(yard), ({"a": due}, {"a": DEEDS[::-1]}))
        self.assertEqual(yard.undo("a", many=2), done_by_hand(ROW, BOOK, ONE, DEEDS[:1:-1]))
        self.assertEqual(yard.log("a"), DEEDS[:1:-1])

    def test_what_was_done_is_done_back(self):
        for board in GREATEST:
            for book in some_books(board, 3, seed=80):
                yard = Yard(board, book)
                one, deeds = unlike_standing(board), some_deeds(board, book, 40)
                yard.put("x", one)
                self.assertEqual(yard.do("x", deeds), done_by_hand(board, book, one, deeds))
                self.assertEqual(yard.do("x", deeds, back=True), one)
                self.assertEqual(yard.log("x"), deeds + deeds[::-1])
                self.assertEqual(done(board, book, yard.standing("x"), yard.log("x"), back=True), one)

    def test_undo(self):
        yard = Yard(ROW, BOOK)
        yard.put("a", ONE)
        steps = [done_by_hand(ROW, BOOK, ONE, DEEDS[:at]) for at in range(5)]
        yard.do("a", DEEDS)
        self.assertEqual(yard.undo("a"), steps[3])
        self.assertEqual(self.shown(yard), ({"a": steps[3]}, {"a": DEEDS[:3]}))
        self.assertEqual(yard.undo("a", many=0), steps[3])
        self.assertEqual(self.shown(yard), ({"a": steps[3]}, {"a": DEEDS[:3]}))
        self.assertEqual(yard.undo("a", many=1), steps[2])
        self.assertEqual(yard.undo("a", many=2), ONE)
        self.assertEqual(self.shown(yard), ({"a": ONE}, {"a": ()}))
        self.assertEqual(yard.undo("a", many=0), ONE)
        yard.do("a", DEEDS)
        self.assertEqual(yard.undo("a", many=4), ONE)
        self.assertEqual(yard.log("a"), ())
        # Done anew behind what was undone.
        yard.do("a", DEEDS)
        yard.undo("a", many=3)
        self.assertEqual(yard.do("a", DEEDS[1:2]), steps[2])
        self.assertEqual(yard.log("a"), DEEDS[:2])

    def test_lead(self):
        for board in GREATEST:
            for at, book in enumerate(some_books(board, 3, seed=81)):
                one = some_standings(board)[at % 2]
                goal = done_by_hand(board, book, one, some_deeds(board, book, 9))
                yard = Yard(board, book)
                yard.put("a", one)
                yard.do("a", some_deeds(board, book, 3, 1))
                before = yard.log("a")
                due = led(board, book, yard.standing("a"), goal)
                many = yard.lead("a", goal)
                self.assertEqual(many, len(due))
                self.assertIs(type(many), int)
                self.assertEqual(self.shown(yard), ({"a": goal}, {"a": before + due}))
                self.assertEqual(yard.lead("a", goal, least=False), 0)
                self.assertEqual(yard.undo("a", many=len(yard.log("a"))), one)

    def test_lead_by_fewest(self):
        yard = Yard(ROW, BOOK[:1])
        yard.put("a", ONE)
        goal = done_by_hand(ROW, BOOK[:1], ONE, ((0, 1), (0, 0), (0, 2)))
        due = fewest(ROW, BOOK[:1], ONE, goal)
        many = yard.lead("a", goal, least=True)
        self.assertEqual(many, len(due))
        self.assertIs(type(many), int)
        self.assertEqual(self.shown(yard), ({"a": goal}, {"a": due}))
        self.assertEqual(yard.lead("a", goal, least=True), 0)
        self.assertEqual(yard.lead("a", ONE, least=True), len(due))
        self.assertEqual(yard.log("a"), due + fewest(ROW, BOOK[:1], goal, ONE))

    def test_names_sorted(self):
        yard = Yard(ROW, BOOK)
        names = ["zz", "a", "abcd", "b", "ab", "zzzz", "aa"]
        for name in names:
            yard.put(name, ONE)
        self.assertEqual(yard.names(), ["a", "aa", "ab", "abcd", "b", "zz", "zzzz"])
        self.assertEqual(len(yard), 7)
        yard.put("a", TWO)
        self.assertEqual(len(yard), 7)

    def test_forty_names(self):
        yard = Yard(("ring", 12), (("swap", 1, 1), ("swap", 2, 0)))
        names = [a + b for a in string.ascii_lowercase[:8] for b in "vwxyz"]
        one = unlike_standing(("ring", 12))
        for name in names[::-1]:
            yard.put(name, one)
        self.assertEqual(yard.names(), names)
        stands = {}
        for at, name in enumerate(names):
            deeds = tuple((k % 2, (at + k) % 12) for k in range(at))
            yard.do(name, deeds)
            self.assertEqual(yard.log(name), deeds)
            stands[name] = done_by_hand(("ring", 12), (("swap", 1, 1), ("swap", 2, 0)), one, deeds)
        self.assertEqual(yard.stands(), stands)

    def test_what_is_told_is_the_askers(self):
        yard = Yard(ROW, BOOK)
        yard.put("a", ONE)
        yard.do("a", DEEDS)
        before = self.shown(yard)
        names, stands, log = yard.names(), yard.stands(), yard.log("a")
        names.append("b")
        stands["b"] = ONE
        stands["a"] = TWO
        self.assertEqual(self.shown(yard), before)
        yard.do("a", DEEDS)
        yard.put("c", TWO)
        self.assertEqual(names, ["a", "b"])
        self.assertEqual(stands, {"a": TWO, "b": ONE})
        self.assertEqual(log, DEEDS)

    def test_two_yards_apart(self):
        one, other = Yard(ROW, BOOK), Yard(("row", 3), (("swap", 1, 0),), limit=2)
        one.put("a", ONE)
        other.put("a", TWO[:3])
        one.do("a", DEEDS)
        self.assertEqual(self.shown(other), ({"a": TWO[:3]}, {"a": ()}))
        other.do("a", ((0, 1), (0, 0)))
        self.assertEqual(one.log("a"), DEEDS)
        self.refused(other, Full, "over", 1, other.do, "a", ((0, 0),))
        one.do("a", DEEDS)

    def test_busy_while_a_deed_is_done(self):
        # A row of deeds looks at the yard when it is gone through.
        yard = Yard(ROW, BOOK)
        yard.put("a", ONE)
        seen = []

        class Looking(tuple):
            def __iter__(self):
                seen.append(yard.busy)
                return super().__iter__()

        yard.do("a", Looking(DEEDS))
        self.assertNotEqual(seen, [])
        self.assertNotIn(None, seen[:1])
        self.assertIsNone(yard.busy)

    def test_what_is_handed_in_stays(self):
        yard = Yard(ROW, BOOK)
        shown = repr((ROW, BOOK, ONE, DEEDS, TWO))
        yard.put("a", ONE)
        yard.do("a", DEEDS)
        yard.do("a", DEEDS, back=True)
        yard.undo("a", many=3)
        yard.lead("a", done_by_hand(ROW, BOOK, ONE, DEEDS))
        self.assertEqual(repr((ROW, BOOK, ONE, DEEDS, TWO)), shown)


class Refusals(Kept):
    def test_no_name(self):
        yard = Yard(ROW, BOOK, limit=2)
        yard.put("a", ONE)
        yard.do("a", DEEDS[:1])
        wrong, barred = ((9, 9),), turned_over(ONE, 0)
        for name in ("b", "aa", "zzzz", "", "A"):
            for call, handed, how in (
                (yard.do, (DEEDS,), {}), (yard.do, (wrong,), {}), (yard.do, (wrong,), {"back": True}), (yard.do, ((),), {}),
                (yard.undo, (), {}), (yard.undo, (), {"many": 0}), (yard.undo, (), {"many": 9}),
                (yard.lead, (ONE,), {}), (yard.lead, (barred,), {}), (yard.lead, (barred,), {"least": True}),
                (yard.standing, (), {}), (yard.log, (), {}),
            ):
                self.refused(yard, NoName, "name", name, call, name, *handed, **how)

    def test_no_name_in_an_empty_yard(self):
        yard = Yard(ROW, BOOK)
        for call, handed in (
            (yard.do, (DEEDS,)), (yard.undo, ()), (yard.lead, (ONE,)), (yard.standing, ()), (yard.log, ()),
        ):
            self.refused(yard, NoName, "name", "a", call, "a", *handed)

    def test_no_deed(self):
        # Ahead of Full, where both are due.
        for limit in (1, 3, 150000):
            yard = Yard(ROW, BOOK, limit=limit)
            yard.put("a", ONE)
            yard.do("a", DEEDS[:1])
            for wrong in ((0, 3), (2, 0), (0, -1), (1, 5), (-1, 0)):
                for at in range(4):
                    deeds = DEEDS[:at] + (wrong,) + DEEDS[at:] + (wrong,)
                    for how in ({}, {"back": False}, {"back": True}):
                        self.refused(yard, NoDeed, "at", at, yard.do, "a", deeds, **how)

    def test_few(self):
        yard = Yard(ROW, BOOK)
        yard.put("a", ONE)
        for many in (1, 2, 10 ** 20):
            self.refused(yard, Few, "many", 0, yard.undo, "a", many=many)
        self.refused(yard, Few, "many", 0, yard.undo, "a")
        yard.do("a", DEEDS)
        for many in (5, 6, 20000, 10 ** 20):
            self.refused(yard, Few, "many", 4, yard.undo, "a", many=many)
        yard.undo("a", many=3)
        self.refused(yard, Few, "many", 1, yard.undo, "a", many=2)

    def test_barred(self):
        for book, goals in (
            (BOOK, [turned_over(ONE, 0), TWO, ONE[:5] + (("a", 0),)]),
            (BOOK[:1], [exchanged(ROW, BOOK[:1], ONE, 0, 2), exchanged(ROW, BOOK[:1], ONE, 1, 2)]),
            ((("swap", 2, 0), ("swap", 2, 1)), [turned_over(ONE, 3), turned_over(ONE, 0, 1)]),
        ):
            for limit in (1, 150000):
                yard = Yard(ROW, book, limit=limit)
                yard.put("a", ONE)
                yard.do("a", ((0, 0),))
                for goal in goals:
                    for how in ({}, {"least": False}, {"least": True}):
                        refusal = self.refused(yard, Barred, None, None, yard.lead, "a", goal, **how)
                        now = yard.standing("a")
                        self.assertIs(barred_shown(ROW, book, now, goal, refusal.paper), True)

    def test_barred_ahead_of_too_many(self):
        board, book = ("row", 36), (("swap", 1, 0),)
        yard = Yard(board, book, limit=1)
        yard.put("a", unlike_standing(board))
        self.refused(yard, Barred, None, None, yard.lead, "a", turned_over(unlike_standing(board), 0), least=True)

    def test_too_many(self):
        for board in GREATEST:
            for book in some_books(board, 3, seed=82):
                one = unlike_standing(board)
                yard = Yard(board, book, limit=1)
                yard.put("a", one)
                deed = some_deeds(board, book, 1)
                yard.do("a", deed)
                many = many_led(board, book, one)
                # Ahead of Full, and where both are alike, too.
                for goal in (one, yard.standing("a"), done_by_hand(board, book, one, some_deeds(board, book, 5))):
                    self.refused(yard, TooMany, "many", many, yard.lead, "a", goal, least=True)

    def test_full_for_do(self):
        for limit in (1, 2, 4, 7):
            yard = Yard(ROW, BOOK, limit=limit)
            yard.put("a", ONE)
            yard.put("b", TWO)
            for many in range(1, 6):
                self.refused(yard, Full, "over", many, yard.do, "a", DEEDS[:1] * (limit + many))
                self.refused(yard, Full, "over", many, yard.do, "a", DEEDS[:1] * (limit + many), back=True)
            # Just at the limit.
            yard.do("a", DEEDS[:1] * limit)
            self.assertEqual(len(yard.log("a")), limit)
            self.refused(yard, Full, "over", 1, yard.do, "a", DEEDS[:1])
            self.refused(yard, Full, "over", 4, yard.do, "a", DEEDS)
            yard.do("a", ())
            # Each name has a log of its own; what is undone makes room.
            yard.do("b", DEEDS[:1] * limit)
            yard.undo("a")
            self.refused(yard, Full, "over", 1, yard.do, "a", DEEDS[:2])
            yard.do("a", DEEDS[2:3], back=True)
            self.assertEqual(yard.log("a"), DEEDS[:1] * (limit - 1) + DEEDS[2:3])

    def test_full_for_lead(self):
        goal = done_by_hand(ROW, BOOK, ONE, DEEDS)
        for least in (False, True):
            deeds = fewest(ROW, BOOK, ONE, goal) if least else led(ROW, BOOK, ONE, goal)
            many = len(deeds)
            self.assertGreater(many, 1)
            for limit in range(1, many):
                yard = Yard(ROW, BOOK, limit=limit)
                yard.put("a", ONE)
                self.refused(yard, Full, "over", many - limit, yard.lead, "a", goal, least=least)
                self.assertEqual(yard.lead("a", ONE, least=least), 0)
            yard = Yard(ROW, BOOK, limit=many + 1)
            yard.put("a", ONE)
            yard.do("a", DEEDS[:1] * 2)
            self.refused(yard, Full, "over", 1, yard.lead, "a", goal, least=least)
            yard.undo("a", many=2)
            self.assertEqual(yard.lead("a", goal, least=least), many)
            self.assertEqual(yard.log("a"), deeds)

    def test_a_log_filled_to_the_limit(self):
        for board, book in (
            (("row", 36), (("swap", 12, 1), ("swap", 1, 0))),
            (("floor", 6, 6), (("over", 3, 2, 1), ("under", 2, 3, 0), ("over", 1, 1, 0))),
        ):
            begin = time.monotonic()
            yard = Yard(board, book)
            one = unlike_standing(board)
            yard.put("a", one)
            deeds = some_deeds(board, book, 20000)
            for _ in range(7):
                yard.do("a", deeds)
            self.refused(yard, Full, "over", 10000, yard.do, "a", deeds)
            self.refused(yard, Full, "over", 1, yard.do, "a", deeds[:10001])
            yard.do("a", deeds[:10000], back=True)
            self.assertEqual(len(yard.log("a")), 150000)
            self.assertEqual(yard.log("a"), deeds * 7 + deeds[9999::-1])
            self.refused(yard, Full, "over", 1, yard.do, "a", deeds[:1])
            yard.undo("a")
            yard.do("a", deeds[:1])
            self.refused(yard, Few, "many", 150000, yard.undo, "a", many=150001)
            self.assertEqual(yard.undo("a", many=150000), one)
            self.assertEqual(yard.log("a"), ())
            self.assertLess(time.monotonic() - begin, 60)

    def test_limits_up_to_200000(self):
        yard = Yard(ROW, BOOK, limit=200000)
        yard.put("a", ONE)
        for _ in range(10):
            yard.do("a", DEEDS * 5000)
        self.refused(yard, Full, "over", 1, yard.do, "a", DEEDS[:1])
        self.assertEqual(yard.undo("a", many=200000), ONE)

    def test_led_behind_refusals(self):
        yard = Yard(ROW, BOOK, limit=1000)
        yard.put("a", ONE)
        goal = mixed(ROW, BOOK, ONE)
        self.refused(yard, Few, "many", 0, yard.undo, "a")
        self.refused(yard, NoDeed, "at", 0, yard.do, "a", ((7, 7),))
        self.refused(yard, Barred, None, None, yard.lead, "a", TWO)
        yard.lead("a", goal)
        self.assertEqual(yard.standing("a"), goal)


if __name__ == "__main__":
    unittest.main()
