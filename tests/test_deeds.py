import unittest

from stridelots.books.rules import all_deeds, pairs_of
from stridelots.errors import NoDeed, StrideError
from tests.samples import (
    BOARDS, GREATEST, all_rules, deeds_by_hand, is_plain, pairs_by_hand, size, some_books,
)

FAR = (-(10 ** 30), -37, -2, -1, 36, 37, 1000, 10 ** 30)


class AllDeeds(unittest.TestCase):
    def expect(self, board, book, deeds):
        with self.subTest(board=board, book=book):
            told = all_deeds(board, book)
            self.assertEqual(told, deeds)
            self.assertIs(type(told), tuple)
            self.assertTrue(is_plain(told))
            self.assertEqual(list(told), sorted(told))
            self.assertEqual(all_deeds(board, book), deeds)

    def test_rows(self):
        self.expect(("row", 3), (("swap", 1, 0),), ((0, 0), (0, 1)))
        self.expect(
            ("row", 6), (("swap", 2, 1), ("swap", 1, 0)),
            ((0, 0), (0, 1), (0, 2), (1, 0), (1, 1), (1, 2), (1, 3), (1, 4)),
        )

    def test_rings(self):
        self.expect(("ring", 5), (("swap", 1, 0),), ((0, 0), (0, 1), (0, 2), (0, 3), (0, 4)))
        self.expect(
            ("ring", 10), (("swap", 2, 0), ("swap", 1, 1)),
            tuple((number, cell) for number in (0, 1) for cell in range(10)),
        )

    def test_floors(self):
        self.expect(("floor", 2, 3), (("over", 1, 1, 0),), ((0, 0), (0, 1), (0, 3), (0, 4)))
        self.expect(("floor", 3, 2), (("under", 1, 1, 0),), ((0, 0), (0, 1), (0, 2), (0, 3)))
        self.expect(
            ("floor", 3, 3), (("over", 2, 1, 0), ("under", 1, 2, 0), ("over", 1, 1, 1)),
            (
                (0, 0), (0, 1), (0, 3), (0, 4),
                (1, 0), (1, 1), (1, 3), (1, 4),
                (2, 0), (2, 1), (2, 3), (2, 4), (2, 6), (2, 7),
            ),
        )
        self.expect(
            ("floor", 6, 3), (("under", 2, 2, 0), ("over", 3, 1, 0)),
            (
                (0, 0), (0, 1), (0, 3), (0, 4), (0, 6), (0, 7),
                (1, 0), (1, 1), (1, 3), (1, 4), (1, 6), (1, 7), (1, 9), (1, 10),
            ),
        )
        self.expect(("floor", 1, 3), (("over", 1, 1, 1),), ((0, 0), (0, 1)))
        self.expect(("floor", 3, 1), (("under", 1, 1, 1),), ((0, 0), (0, 1)))

    def test_few_cells_to_stand_on(self):
        self.expect(("row", 8), (("swap", 2, 0),), tuple((0, cell) for cell in range(5)))
        self.expect(("row", 9), (("swap", 3, 0),), ((0, 0), (0, 1), (0, 2), (0, 3)))
        self.expect(("floor", 1, 6), (("over", 1, 2, 0),), ((0, 0), (0, 1), (0, 2)))
        self.expect(("floor", 3, 6), (("over", 2, 2, 0),), ((0, 0), (0, 1), (0, 2), (0, 6), (0, 7), (0, 8)))

    def test_greatest_boards(self):
        self.expect(("row", 36), (("swap", 12, 0),), tuple((0, cell) for cell in range(13)))
        self.expect(("row", 36), (("swap", 1, 0),), tuple((0, cell) for cell in range(35)))
        self.expect(("ring", 36), (("swap", 7, 0),), tuple((0, cell) for cell in range(36)))
        self.assertEqual(len(all_deeds(("floor", 6, 6), (("over", 3, 2, 0),))), 4 * 3)
        self.assertEqual(len(all_deeds(("floor", 6, 6), (("under", 2, 3, 0),))), 3 * 4)
        self.assertEqual(len(all_deeds(("floor", 36, 1), (("under", 12, 1, 0),))), 13)
        self.assertEqual(len(all_deeds(("floor", 1, 36), (("over", 1, 12, 0),))), 13)
        self.assertEqual(len(all_deeds(("floor", 12, 3), (("over", 6, 1, 1),))), 7 * 2)
        self.assertIn(("floor", 4, 9), GREATEST)
        for board in GREATEST:
            for book in some_books(board, 12):
                self.expect(board, book, deeds_by_hand(board, book))

    def test_all_boards(self):
        for board in BOARDS:
            for rule in all_rules(board):
                self.expect(board, (rule,), deeds_by_hand(board, (rule,)))
            for book in some_books(board, 4):
                self.expect(board, book, deeds_by_hand(board, book))


class PairsOf(unittest.TestCase):
    def expect(self, board, book, deed, pairs):
        with self.subTest(board=board, book=book, deed=deed):
            told = pairs_of(board, book, deed)
            self.assertEqual(told, pairs)
            self.assertIs(type(told), tuple)
            self.assertTrue(is_plain(told))
            self.assertEqual(pairs_of(board, book, deed), pairs)

    def refused(self, board, book, deed):
        with self.subTest(board=board, book=book, deed=deed):
            with self.assertRaises(NoDeed) as caught:
                pairs_of(board, book, deed)
            self.assertIs(type(caught.exception), NoDeed)
            self.assertIsInstance(caught.exception, StrideError)
            self.assertEqual(caught.exception.at, 0)
            self.assertIs(type(caught.exception.at), int)

    def test_rows(self):
        book = (("swap", 2, 0), ("swap", 1, 1))
        self.expect(("row", 6), book, (0, 0), ((0, 2), (1, 3)))
        self.expect(("row", 6), book, (0, 2), ((2, 4), (3, 5)))
        self.expect(("row", 6), book, (1, 4), ((4, 5),))
        self.expect(("row", 9), (("swap", 3, 1),), (0, 3), ((3, 6), (4, 7), (5, 8)))

    def test_rings_round_their_end(self):
        book = (("swap", 1, 0), ("swap", 2, 0))
        self.expect(("ring", 10), book, (1, 0), ((0, 2), (1, 3)))
        self.expect(("ring", 10), book, (1, 6), ((6, 8), (7, 9)))
        self.expect(("ring", 10), book, (1, 7), ((7, 9), (8, 0)))
        self.expect(("ring", 10), book, (1, 8), ((8, 0), (9, 1)))
        self.expect(("ring", 10), book, (1, 9), ((9, 1), (0, 2)))
        self.expect(("ring", 10), book, (0, 9), ((9, 0),))
        self.expect(("ring", 5), (("swap", 1, 1),), (0, 4), ((4, 0),))
        self.expect(("ring", 15), (("swap", 3, 1),), (0, 11), ((11, 14), (12, 0), (13, 1)))

    def test_floors(self):
        book = (("over", 2, 1, 0), ("under", 1, 2, 1))
        self.expect(("floor", 3, 3), book, (0, 4), ((4, 5), (7, 8)))
        self.expect(("floor", 3, 3), book, (1, 4), ((4, 7), (5, 8)))
        self.expect(("floor", 3, 6), (("over", 2, 2, 0),), (0, 1), ((1, 3), (2, 4), (7, 9), (8, 10)))
        self.expect(("floor", 3, 6), (("over", 2, 2, 0),), (0, 8), ((8, 10), (9, 11), (14, 16), (15, 17)))
        self.expect(("floor", 6, 3), (("under", 2, 2, 0),), (0, 1), ((1, 7), (2, 8), (4, 10), (5, 11)))
        self.expect(("floor", 6, 3), (("under", 2, 2, 1),), (0, 7), ((7, 13), (8, 14), (10, 16), (11, 17)))
        self.expect(
            ("floor", 6, 6), (("over", 3, 2, 1),), (0, 20),
            ((20, 22), (21, 23), (26, 28), (27, 29), (32, 34), (33, 35)),
        )
        self.expect(
            ("floor", 6, 6), (("under", 2, 3, 1),), (0, 15),
            ((15, 27), (16, 28), (17, 29), (21, 33), (22, 34), (23, 35)),
        )

    def test_all_boards(self):
        for board in BOARDS:
            for rule in all_rules(board):
                for number, cell in deeds_by_hand(board, (rule,)):
                    self.expect(board, (rule,), (number, cell), pairs_by_hand(board, rule, cell))

    def test_no_deed_in_rows(self):
        book = (("swap", 2, 0), ("swap", 1, 0))
        for deed in ((0, -1), (0, 3), (0, 5), (0, 6), (1, -1), (1, 5), (1, 6)):
            self.refused(("row", 6), book, deed)
        for cell in FAR:
            self.refused(("row", 6), book, (0, cell))

    def test_no_deed_in_rings(self):
        for cell in (*FAR, 5, -5, 10):
            self.refused(("ring", 5), (("swap", 1, 0),), (0, cell))

    def test_no_deed_on_floors(self):
        book = (("over", 2, 1, 0), ("under", 1, 2, 0))
        # Over the right edge, over the lower one, over both, and on no cell.
        for cell in (2, 5, 6, 7, 8, 9, 10, -1, -3):
            self.refused(("floor", 3, 3), book, (0, cell))
            self.refused(("floor", 3, 3), book, (1, cell))
        self.refused(("floor", 3, 6), (("over", 2, 2, 0),), (0, 3))
        self.refused(("floor", 3, 6), (("over", 2, 2, 0),), (0, 12))
        self.refused(("floor", 6, 3), (("under", 2, 2, 0),), (0, 2))
        self.refused(("floor", 6, 3), (("under", 2, 2, 0),), (0, 9))
        for cell in FAR:
            self.refused(("floor", 3, 3), book, (0, cell))
            self.refused(("floor", 3, 3), book, (1, cell))

    def test_no_rule_of_that_number(self):
        for board, book in (
            (("row", 6), (("swap", 1, 0), ("swap", 2, 0))),
            (("ring", 10), (("swap", 1, 0), ("swap", 2, 0))),
            (("floor", 3, 3), (("over", 1, 1, 0), ("under", 1, 1, 0))),
        ):
            for number in (-(10 ** 30), -3, -2, -1, 2, 3, 4, 10 ** 30):
                for cell in (0, 1, -1, 100):
                    self.refused(board, book, (number, cell))
                self.refused(board, book[:1], (1, 0))

    def test_each_cell_that_has_none(self):
        for board in BOARDS:
            for rule in all_rules(board):
                for cell in range(-2, size(board) + 2):
                    if pairs_by_hand(board, rule, cell) is None:
                        self.refused(board, (rule,), (0, cell))


if __name__ == "__main__":
    unittest.main()
