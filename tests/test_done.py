import time
import unittest

from stridelots.books.doing import done
from stridelots.errors import NoDeed, StrideError
from tests.samples import (
    BOARDS, GREATEST, done_by_hand, is_plain, some_books, some_deeds, some_standing,
    unlike_standing,
)

ABC = (("a", 0), ("b", 1), ("c", 0), ("d", 1), ("e", 0), ("f", 1))


class Done(unittest.TestCase):
    def expect(self, board, book, standing, deeds, due, **how):
        with self.subTest(board=board, book=book, deeds=deeds[:9], how=how):
            told = done(board, book, standing, deeds, **how)
            self.assertEqual(told, due)
            self.assertIs(type(told), tuple)
            self.assertTrue(is_plain(told))
            self.assertEqual(done(board, book, standing, deeds, **how), due)

    def refused(self, board, book, standing, deeds, at):
        for how in ({}, {"back": False}, {"back": True}):
            with self.subTest(board=board, book=book, deeds=deeds[:9], how=how):
                with self.assertRaises(NoDeed) as caught:
                    done(board, book, standing, deeds, **how)
                self.assertIs(type(caught.exception), NoDeed)
                self.assertIsInstance(caught.exception, StrideError)
                self.assertEqual(caught.exception.at, at)
                self.assertIs(type(caught.exception.at), int)

    def test_no_deeds(self):
        for board in BOARDS:
            for book in some_books(board, 1):
                standing = some_standing(board)
                self.expect(board, book, standing, (), standing)
                self.expect(board, book, standing, (), standing, back=True)

    def test_one_deed(self):
        book = (("swap", 2, 0), ("swap", 2, 1), ("swap", 1, 1))
        a, b, c, d, e, f = ABC
        self.expect(("row", 6), book, ABC, ((0, 0),), (c, d, a, b, e, f))
        self.expect(("row", 6), book, ABC, ((0, 2),), (a, b, e, f, c, d))
        turned = (("c", 1), ("d", 0), ("a", 1), ("b", 0), e, f)
        self.expect(("row", 6), book, ABC, ((1, 0),), turned)
        self.expect(("row", 6), book, ABC, ((1, 0),), turned, back=True)
        self.expect(("row", 6), book, ABC, ((2, 4),), (a, b, c, d, ("f", 0), ("e", 1)))

    def test_one_deed_round_the_end_of_a_ring(self):
        a, b, c, d, e, f = ABC
        self.expect(("ring", 6), (("swap", 1, 0),), ABC, ((0, 5),), (f, b, c, d, e, a))
        self.expect(("ring", 6), (("swap", 1, 1),), ABC, ((0, 5),), (("f", 0), b, c, d, e, ("a", 1)))

    def test_one_deed_on_a_floor(self):
        a, b, c, d, e, f = ABC
        self.expect(("floor", 2, 3), (("over", 1, 1, 0),), ABC, ((0, 4),), (a, b, c, d, f, e))
        self.expect(("floor", 3, 2), (("under", 1, 1, 1),), ABC, ((0, 3),), (a, b, c, ("f", 0), e, ("d", 0)))
        nine = tuple((x, 0) for x in "abcdefghi")
        over = tuple((x, 0) for x in "abcdfegih")
        self.expect(("floor", 3, 3), (("over", 2, 1, 0),), nine, ((0, 4),), over)

    def test_in_order_and_back(self):
        a, b, c, d, e, f = ABC
        book = (("swap", 1, 0),)
        self.expect(("row", 6), book, ABC, ((0, 0), (0, 1)), (b, c, a, d, e, f))
        self.expect(("row", 6), book, ABC, ((0, 0), (0, 1)), (b, c, a, d, e, f), back=False)
        self.expect(("row", 6), book, ABC, ((0, 0), (0, 1)), (c, a, b, d, e, f), back=True)
        bent = (("swap", 1, 1),)
        self.expect(("row", 6), bent, ABC, ((0, 0), (0, 1)), (("b", 0), ("c", 1), a, d, e, f))

    def test_against_deeds_done_by_hand(self):
        for board in BOARDS:
            for book in some_books(board, 4):
                for many in (1, 2, 3, 20):
                    deeds = some_deeds(board, book, many)
                    for standing in (some_standing(board), unlike_standing(board)):
                        due = done_by_hand(board, book, standing, deeds)
                        self.expect(board, book, standing, deeds, due)
                        self.expect(board, book, due, deeds, standing, back=True)
                        due = done_by_hand(board, book, standing, deeds[::-1])
                        self.expect(board, book, standing, deeds, due, back=True)

    def test_each_deed_undoes_itself(self):
        for board in GREATEST:
            for book in some_books(board, 8):
                standing = unlike_standing(board)
                for deed in some_deeds(board, book, 5):
                    self.assertNotEqual(done(board, book, standing, (deed,)), standing)
                    self.expect(board, book, standing, (deed, deed), standing)

    def test_20000_deeds(self):
        for board in GREATEST:
            book = some_books(board, 4)[3]
            deeds = some_deeds(board, book, 20000)
            standing = unlike_standing(board)
            begin = time.monotonic()
            told = done(board, book, standing, deeds)
            self.assertEqual(done(board, book, told, deeds, back=True), standing)
            self.assertLess(time.monotonic() - begin, 10)
            self.assertEqual(told, done_by_hand(board, book, standing, deeds))

    def test_refused_at_the_first_that_is_none(self):
        book = (("swap", 2, 0), ("swap", 1, 1))
        for wrong in ((0, 3), (0, -1), (1, 5), (2, 0), (-1, 0), (0, 10 ** 30), (10 ** 30, 0)):
            self.refused(("row", 6), book, ABC, (wrong,), 0)
            self.refused(("row", 6), book, ABC, ((0, 0), wrong), 1)
            self.refused(("row", 6), book, ABC, (wrong, (0, 0)), 0)
            self.refused(("row", 6), book, ABC, ((0, 0), (1, 0), wrong, (0, 0)), 2)
            self.refused(("row", 6), book, ABC, ((0, 0), wrong, (1, 0), wrong, wrong), 1)
            self.refused(("row", 6), book, ABC, ((0, 1),) * 19999 + (wrong,), 19999)
            self.refused(("row", 6), book, ABC, ((0, 1),) * 10000 + (wrong,) * 10000, 10000)

    def test_refused_in_rings_and_on_floors(self):
        self.refused(("ring", 6), (("swap", 1, 0),), ABC, ((0, 5), (0, 6), (0, 0)), 1)
        self.refused(("ring", 6), (("swap", 1, 0),), ABC, ((0, 5), (0, 0), (0, -1)), 2)
        self.refused(("floor", 2, 3), (("over", 1, 1, 0),), ABC, ((0, 1), (0, 2), (0, 5)), 1)
        self.refused(("floor", 3, 2), (("under", 1, 1, 0),), ABC, ((0, 3), (0, 3), (0, 4)), 2)

    def test_what_is_handed_in_stays(self):
        board, book, deeds = ("row", 6), (("swap", 2, 1), ("swap", 1, 0)), ((0, 0), (1, 3), (0, 2))
        standing = tuple(ABC)
        shown = repr((board, book, standing, deeds))
        done(board, book, standing, deeds)
        done(board, book, standing, deeds, back=True)
        self.assertEqual(repr((board, book, standing, deeds)), shown)


if __name__ == "__main__":
    unittest.main()
