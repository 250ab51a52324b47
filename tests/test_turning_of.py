import time
import unittest

from stridelots.books.doing import done
from stridelots.errors import NoDeed
from stridelots.plans.texts import turning_of
from stridelots.plans.turnings import Turning
from tests.samples import (
    BOARDS, GREATEST, is_plain, size, some_books, some_deeds, some_standing, unlike_standing,
)


class TurningOf(unittest.TestCase):
    def expect(self, board, book, deeds, goes, turns):
        with self.subTest(board=board, book=book, deeds=deeds):
            for _ in range(2):
                told = turning_of(board, book, deeds)
                self.assertIs(type(told), Turning)
                self.assertEqual((told.goes, told.turns), (goes, turns))
                self.assertTrue(is_plain((told.goes, told.turns)))

    def refused(self, board, book, deeds, at):
        with self.subTest(board=board, book=book, deeds=deeds[:9]):
            with self.assertRaises(NoDeed) as caught:
                turning_of(board, book, deeds)
            self.assertEqual(caught.exception.at, at)
            self.assertIs(type(caught.exception.at), int)

    def test_no_deeds(self):
        for board in BOARDS:
            for book in some_books(board, 1):
                self.expect(board, book, (), tuple(range(size(board))), (0,) * size(board))

    def test_few_deeds(self):
        book = (("swap", 2, 0), ("swap", 1, 1))
        self.expect(("row", 6), book, ((0, 0),), (2, 3, 0, 1, 4, 5), (0,) * 6)
        self.expect(("row", 6), book, ((1, 0),), (1, 0, 2, 3, 4, 5), (1, 1, 0, 0, 0, 0))
        self.expect(("row", 6), book, ((1, 0), (1, 1)), (2, 0, 1, 3, 4, 5), (0, 1, 1, 0, 0, 0))
        self.expect(("row", 6), book, ((1, 0), (0, 0)), (3, 2, 0, 1, 4, 5), (1, 1, 0, 0, 0, 0))
        self.expect(("ring", 5), (("swap", 1, 0),), ((0, 4), (0, 0)), (4, 0, 2, 3, 1), (0,) * 5)
        self.expect(("floor", 3, 2), (("under", 1, 1, 1),), ((0, 2),), (0, 1, 4, 3, 2, 5), (0, 0, 1, 0, 1, 0))

    def test_against_done(self):
        for board in BOARDS:
            for book in some_books(board, 4):
                deeds = some_deeds(board, book, 40)
                turning = turning_of(board, book, deeds)
                back = turning_of(board, book, deeds[::-1])
                self.assertEqual(turning.turned_back(), back)
                for standing in (some_standing(board), unlike_standing(board)):
                    self.assertEqual(turning.on(standing), done(board, book, standing, deeds))
                    self.assertEqual(back.on(standing), done(board, book, standing, deeds, back=True))

    def test_rows_put_together(self):
        for board in GREATEST:
            for book in some_books(board, 4):
                one, other = some_deeds(board, book, 9, 1), some_deeds(board, book, 9, 2)
                both = turning_of(board, book, one).behind(turning_of(board, book, other))
                self.assertEqual(turning_of(board, book, one + other), both)
                self.assertEqual(turning_of(board, book, one * 5), turning_of(board, book, one).often(5))

    def test_20000_deeds(self):
        for board in GREATEST:
            book = some_books(board, 4)[3]
            deeds = some_deeds(board, book, 20000)
            begin = time.monotonic()
            turning = turning_of(board, book, deeds)
            self.assertLess(time.monotonic() - begin, 5)
            standing = unlike_standing(board)
            self.assertEqual(turning.on(standing), done(board, book, standing, deeds))

    def test_refused_at_the_first_that_is_none(self):
        book = (("swap", 2, 0), ("swap", 1, 1))
        for wrong in ((0, 3), (0, -1), (1, 5), (2, 0), (-1, 0), (0, 10 ** 30)):
            self.refused(("row", 6), book, (wrong,), 0)
            self.refused(("row", 6), book, ((0, 0), wrong, (0, 0), wrong), 1)
            self.refused(("row", 6), book, ((0, 2),) * 19999 + (wrong,), 19999)
        self.refused(("ring", 5), (("swap", 1, 0),), ((0, 4), (0, 5)), 1)
        self.refused(("floor", 3, 2), (("under", 1, 1, 1),), ((0, 3), (0, 4), (0, 5)), 1)


if __name__ == "__main__":
    unittest.main()
