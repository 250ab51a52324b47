import collections
import random
import unittest

from stridelots import errors
from stridelots.counts import fewest as module
from stridelots.counts.fewest import MOST_SEEN, fewest, steps_of
from stridelots.counts.many import many_led
from stridelots.errors import Barred, StrideError, TooMany
from stridelots.papers.looker import barred_shown
from tests.samples import (
    BOARDS, GREATEST, all_led, all_rules, deeds_by_hand, done_by_hand, exchanged, is_plain, mixed,
    names_standing, size, some_books, some_standings, turned_over, unlike_standing,
)

SMALL = [board for board in BOARDS if 3 <= size(board) <= 9 and all_rules(board)]


def one_odd(board, *odd):
    """All things of one name, but for these cells."""
    return tuple(("b" if x in odd else "a", 0) for x in range(size(board)))


def cases():
    """Boards, books and standings to which some hundreds of others come, at most."""
    for board in SMALL:
        for book in some_books(board, 6, seed=70):
            for one in some_standings(board) + [one_odd(board, 0), names_standing(board, ("a", "a", "b"))]:
                if many_led(board, book, one) <= 400:
                    yield board, book, one
    for board in GREATEST:
        for book in some_books(board, 6, seed=71):
            straight = tuple(rule for rule in book if rule[-1] == 0)
            if straight:
                yield board, straight, one_odd(board, 7)


class Refused(unittest.TestCase):
    def too_many(self, many, call, *handed, **how):
        with self.subTest(call=call.__name__, handed=handed, how=how):
            with self.assertRaises(TooMany) as caught:
                call(*handed, **how)
            self.assertIs(type(caught.exception), TooMany)
            self.assertEqual(caught.exception.many, many)
            self.assertIs(type(caught.exception.many), int)
            self.assertIsInstance(caught.exception, StrideError)
            self.assertIsInstance(caught.exception, ValueError)
            for name in (
                "NoStanding", "NoBook", "NoDeed", "NoTurning", "NotEven", "NoRound", "NoPair", "Barred",
                "Few", "NoPlan", "NoName", "Full",
            ):
                self.assertNotIsInstance(caught.exception, getattr(errors, name))

    def barred(self, board, book, one, other, **how):
        with self.subTest(board=board, book=book, one=one, other=other, how=how):
            with self.assertRaises(Barred) as caught:
                fewest(board, book, one, other, **how)
            self.assertIs(type(caught.exception), Barred)
            self.assertIs(barred_shown(board, book, one, other, caught.exception.paper), True)


class Fewest(Refused):
    def expect(self, board, book, one, other, deeds, **how):
        with self.subTest(board=board, book=book, one=one, other=other, how=how):
            told = fewest(board, book, one, other, **how)
            self.assertEqual(told, deeds)
            self.assertIs(type(told), tuple)
            self.assertTrue(is_plain(told))
            self.assertEqual(fewest(board, book, one, other, **how), deeds)

    def test_most_seen(self):
        self.assertEqual(MOST_SEEN, 3000)
        self.assertIs(type(module.MOST_SEEN), int)

    def test_alike(self):
        for board, book, one in cases():
            self.expect(board, book, one, one, ())

    def test_the_first_of_the_fewest(self):
        row, one = ("row", 3), (("a", 0), ("b", 0), ("c", 0))
        other = (("c", 0), ("b", 0), ("a", 0))
        self.expect(row, (("swap", 1, 0),), one, other, ((0, 0), (0, 1), (0, 0)))
        # Two rules that do the same here: the first one's deeds are the first as tuples.
        both, alike = (("swap", 1, 1), ("swap", 1, 0)), (("a", 0), ("a", 1), ("b", 0))
        self.expect(row, both, alike, (("a", 1), ("a", 0), ("b", 0)), ((1, 0),))
        self.expect(row, both, alike, alike, ())
        book = (("swap", 2, 0), ("swap", 1, 0))
        one = tuple((name, 0) for name in "abcdef")
        self.expect(("row", 6), book, one, done_by_hand(("row", 6), book, one, ((1, 0), (0, 2))), ((0, 2), (1, 0)))

    def test_against_walks(self):
        for board, book, one in cases():
            rows = all_led(board, book, one)
            chance = random.Random(f"{board} {book}")
            others = list(rows)
            for other in chance.sample(others, min(4, len(others))) + others[-1:]:
                self.expect(board, book, one, other, rows[other])

    def test_first_among_all_rows_of_so_many(self):
        # All rows of so many deeds, not a walk: the first of those that lead there.
        board, book = ("ring", 5), (("swap", 1, 0), ("swap", 1, 1))
        one = names_standing(board, ("a", "b"))
        rows = {one: ()}
        level = [((), one)]
        for _ in range(3):
            level = [
                (row + (deed,), done_by_hand(board, book, at, (deed,)))
                for row, at in level for deed in deeds_by_hand(board, book)
            ]
            for row, at in sorted(level):
                rows.setdefault(at, row)
        for other, row in rows.items():
            self.expect(board, book, one, other, row)

    def test_barred_first(self):
        for board in GREATEST:
            for book in some_books(board, 4, seed=72):
                one = unlike_standing(board)
                for how in ({}, {"most": 1}, {"most": 5000}):
                    self.barred(board, book, one, turned_over(one, 1), **how)
                    self.barred(board, book, one, (("zz", 0),) + one[1:], **how)
        one = unlike_standing(("row", 6))
        other = exchanged(("row", 6), (("swap", 2, 0),), one, 0, 2)
        self.barred(("row", 6), (("swap", 2, 0),), one, other, most=1)

    def test_too_many(self):
        for board in GREATEST:
            for book in some_books(board, 4, seed=73):
                one = unlike_standing(board)
                many = many_led(board, book, one)
                self.assertGreater(many, 5000)
                other = done_by_hand(board, book, one, deeds_by_hand(board, book)[:3])
                for how in ({}, {"most": 1}, {"most": 5000}):
                    self.too_many(many, fewest, board, book, one, other, **how)
                    self.too_many(many, fewest, board, book, one, one, **how)

    def test_most_as_great_as_how_many_come(self):
        for board, book, one in cases():
            many = many_led(board, book, one)
            rows = all_led(board, book, one)
            other = list(rows)[-1]
            self.expect(board, book, one, other, rows[other], most=many)
            self.expect(board, book, one, other, rows[other], most=5000)
            if many > 1:
                for most in (1, many - 1):
                    self.too_many(many, fewest, board, book, one, other, most=most)
                    self.too_many(many, fewest, board, book, one, one, most=most)

    def test_about_3000(self):
        row, book = ("row", 36), (("swap", 12, 0),)
        for odd, many in (((0, 1, 2, 3, 4, 5, 6), 3 ** 7), ((0, 1, 2, 3, 4, 5, 6, 7), 3 ** 8)):
            one = one_odd(row, *odd)
            other = done_by_hand(row, book, one, ((0, 3), (0, 9)))
            if many <= 3000:
                self.expect(row, book, one, other, all_led(row, book, one)[other])
            else:
                self.too_many(many, fewest, row, book, one, other)
                self.too_many(many, steps_of, row, book, one)
                self.too_many(many, fewest, row, book, one, other, most=5000)

    def test_most_of_5000(self):
        board, book = ("row", 31), (("swap", 1, 0), ("swap", 2, 0), ("swap", 3, 0), ("swap", 4, 0))
        one = one_odd(board, 3, 4, 10)
        other = one_odd(board, 20, 29, 30)
        self.too_many(4495, fewest, board, book, one, other)
        self.too_many(4495, fewest, board, book, one, other, most=4494)
        rows = all_led(board, book, one)
        self.expect(board, book, one, other, rows[other], most=5000)
        self.expect(board, book, one, other, rows[other], most=4495)
        told = collections.Counter(map(len, rows.values()))
        self.assertEqual(steps_of(board, book, one, most=5000), tuple(told[at] for at in range(len(told))))

    def test_great_boards_on_which_few_come(self):
        for board in GREATEST:
            for book in some_books(board, 6, seed=74):
                straight = tuple(rule for rule in book if rule[-1] == 0)
                if straight:
                    one = one_odd(board, 0)
                    rows = all_led(board, straight, one)
                    self.assertLessEqual(len(rows), 36)
                    for other in list(rows)[::5]:
                        self.expect(board, straight, one, other, rows[other])

    def test_what_is_handed_in_stays(self):
        board, book = ("row", 6), (("swap", 2, 0), ("swap", 1, 1))
        one = names_standing(board, ("a", "b"))
        other = mixed(board, book, one)
        shown = repr((board, book, one, other))
        fewest(board, book, one, other)
        steps_of(board, book, one)
        self.assertEqual(repr((board, book, one, other)), shown)


class Steps(Refused):
    def expect(self, board, book, one, steps, **how):
        with self.subTest(board=board, book=book, one=one, how=how):
            told = steps_of(board, book, one, **how)
            self.assertEqual(told, steps)
            self.assertIs(type(told), tuple)
            self.assertTrue(is_plain(told))
            self.assertEqual(told[0], 1)
            self.assertEqual(sum(told), many_led(board, book, one))
            self.assertEqual(steps_of(board, book, one, **how), told)

    def test_nothing_else_comes(self):
        for board in BOARDS:
            for book in some_books(board, 2, seed=75):
                one = (("a", 1),) * size(board)
                straight = tuple(rule for rule in book if rule[-1] == 0)
                if straight:
                    self.expect(board, straight, one, (1,))
                    self.expect(board, straight, one, (1,), most=1)

    def test_against_walks(self):
        for board, book, one in cases():
            rows = all_led(board, book, one)
            told = collections.Counter(map(len, rows.values()))
            self.expect(board, book, one, tuple(told[at] for at in range(len(told))))
            self.assertEqual(steps_of(board, book, one) == (1,), len(rows) == 1)

    def test_told_ones(self):
        one = (("a", 0), ("b", 0), ("c", 0))
        self.expect(("row", 3), (("swap", 1, 0),), one, (1, 2, 2, 1))
        self.expect(("row", 3), (("swap", 1, 0),), one, (1, 2, 2, 1), most=6)
        self.expect(("row", 36), (("swap", 1, 0),), one_odd(("row", 36), 0), (1,) * 36)
        self.expect(("ring", 36), (("swap", 1, 0),), one_odd(("ring", 36), 0), (1,) + (2,) * 17 + (1,))

    def test_too_many(self):
        one = (("a", 0), ("b", 0), ("c", 0))
        for most in (1, 2, 5):
            self.too_many(6, steps_of, ("row", 3), (("swap", 1, 0),), one, most=most)
        for board in GREATEST:
            for book in some_books(board, 4, seed=76):
                many = many_led(board, book, unlike_standing(board))
                self.too_many(many, steps_of, board, book, unlike_standing(board))
                self.too_many(many, steps_of, board, book, unlike_standing(board), most=5000)


if __name__ == "__main__":
    unittest.main()
