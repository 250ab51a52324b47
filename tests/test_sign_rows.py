import itertools
import unittest

from stridelots.errors import NoDeed, StrideError
from stridelots.signs.rows import lots_of, sign_row, span_of
from tests.samples import (
    BOARDS, GREATEST, all_rules, classes_by_hand, deeds_by_hand, is_plain, pairs_by_hand, size,
    some_books,
)


def row_by_hand(board, book, deed):
    pairs = pairs_by_hand(board, book[deed[0]], deed[1])
    row = []
    for cells in classes_by_hand(board, book):
        inside = [pair for pair in pairs if set(pair) <= set(cells)]
        row.append(len(inside) % 2)
    return tuple(row)


def added(one, other):
    return tuple(a ^ b for a, b in zip(one, other))


def all_sums(rows, many):
    """All sums of the rows, that of none, too."""
    sums = {(0,) * many}
    for row in rows:
        if row not in sums:
            sums |= {added(row, one) for one in sums}
    return sums


def in_common(one, other):
    return sum(a & b for a, b in zip(one, other))


class SignRow(unittest.TestCase):
    def expect(self, board, book, deed, row):
        with self.subTest(board=board, book=book, deed=deed):
            told = sign_row(board, book, deed)
            self.assertEqual(told, row)
            self.assertIs(type(told), tuple)
            self.assertTrue(is_plain(told))
            self.assertEqual(sign_row(board, book, deed), row)

    def refused(self, board, book, deed):
        with self.subTest(board=board, book=book, deed=deed):
            with self.assertRaises(NoDeed) as caught:
                sign_row(board, book, deed)
            self.assertIs(type(caught.exception), NoDeed)
            self.assertIsInstance(caught.exception, StrideError)
            self.assertEqual(caught.exception.at, 0)

    def test_one_class(self):
        self.expect(("row", 3), (("swap", 1, 0),), (0, 1), (1,))
        book = (("swap", 1, 0), ("swap", 2, 1), ("swap", 3, 0))
        self.expect(("row", 9), book, (0, 7), (1,))
        self.expect(("row", 9), book, (1, 5), (0,))
        self.expect(("row", 9), book, (2, 0), (1,))

    def test_several_classes(self):
        self.expect(("row", 6), (("swap", 2, 0),), (0, 1), (1, 1))
        book = (("swap", 2, 0), ("swap", 4, 0))
        self.expect(("row", 12), book, (0, 3), (1, 1))
        self.expect(("row", 12), book, (1, 3), (0, 0))
        self.expect(("row", 18), (("swap", 6, 1), ("swap", 4, 0)), (0, 0), (1, 1))
        self.expect(("ring", 30), (("swap", 6, 1), ("swap", 3, 0)), (0, 29), (0, 0, 0))
        self.expect(("ring", 30), (("swap", 6, 1), ("swap", 3, 0)), (1, 29), (1, 1, 1))

    def test_floors(self):
        book = (("over", 1, 1, 0), ("over", 2, 1, 0))
        self.expect(("floor", 3, 3), book, (0, 3), (0, 1, 0))
        self.expect(("floor", 3, 3), book, (1, 0), (1, 1, 0))
        self.expect(("floor", 3, 3), book, (1, 4), (0, 1, 1))
        book = (("under", 1, 1, 0), ("under", 1, 2, 0))
        self.expect(("floor", 3, 3), book, (0, 4), (0, 1, 0))
        self.expect(("floor", 3, 3), book, (1, 1), (0, 1, 1))
        self.expect(("floor", 3, 6), (("over", 2, 2, 0), ("under", 1, 1, 0)), (0, 7), (0, 0))

    def test_against_pairs_counted(self):
        for board in BOARDS:
            for book in some_books(board, 4):
                for deed in deeds_by_hand(board, book)[::7]:
                    self.expect(board, book, deed, row_by_hand(board, book, deed))

    def test_no_deed(self):
        for deed in ((0, 3), (0, -1), (1, 5), (2, 0), (-1, 0), (0, 10 ** 30), (10 ** 30, 0)):
            self.refused(("row", 6), (("swap", 2, 0), ("swap", 1, 1)), deed)
        for deed in ((0, 5), (0, -1), (1, 0), (-1, 0)):
            self.refused(("ring", 5), (("swap", 1, 0),), deed)
        for deed in ((0, 2), (0, 9), (0, -1), (1, 6), (1, 2), (2, 0), (-1, 0)):
            self.refused(("floor", 3, 3), (("over", 1, 1, 0), ("under", 1, 2, 0)), deed)


class SpanAndLots(unittest.TestCase):
    def reduced(self, rows, many):
        self.assertIs(type(rows), tuple)
        self.assertTrue(is_plain(rows))
        for row in rows:
            self.assertIs(type(row), tuple)
            self.assertEqual(len(row), many)
            self.assertLessEqual(set(row), {0, 1})
            self.assertIn(1, row)
        firsts = [row.index(1) for row in rows]
        self.assertEqual(firsts, sorted(set(firsts)))
        for first in firsts:
            self.assertEqual(sum(row[first] for row in rows), 1)

    def check(self, board, book):
        with self.subTest(board=board, book=book):
            many = len(classes_by_hand(board, book))
            rows = {row_by_hand(board, book, deed) for deed in deeds_by_hand(board, book)}
            span, lots = span_of(board, book), lots_of(board, book)
            self.reduced(span, many)
            self.reduced(lots, many)
            self.assertEqual(all_sums(span, many), all_sums(rows, many))
            self.assertEqual(len(span) + len(lots), many)
            for lot in lots:
                for row in rows:
                    self.assertEqual(in_common(lot, row) % 2, 0)
            self.assertEqual((span_of(board, book), lots_of(board, book)), (span, lots))

    def expect(self, board, book, span, lots):
        with self.subTest(board=board, book=book):
            self.assertEqual(span_of(board, book), span)
            self.assertEqual(lots_of(board, book), lots)
        self.check(board, book)

    def test_one_class(self):
        self.expect(("row", 6), (("swap", 1, 0),), ((1,),), ())
        self.expect(("ring", 11), (("swap", 1, 0), ("swap", 2, 0)), ((1,),), ())
        # Deeds of two pairs, or of four, in the one class.
        self.expect(("ring", 11), (("swap", 2, 0),), (), ((1,),))
        self.expect(("ring", 21), (("swap", 4, 0), ("swap", 2, 1)), (), ((1,),))

    def test_no_rows_in_several_classes(self):
        self.expect(("row", 18), (("swap", 4, 0), ("swap", 4, 1)), ((1, 1, 1, 1),), (
            (1, 0, 0, 1), (0, 1, 0, 1), (0, 0, 1, 1),
        ))
        self.expect(("ring", 30), (("swap", 6, 0),), ((1,) * 6,), tuple(
            tuple(int(place in (at, 5)) for place in range(6)) for at in range(5)
        ))
        self.expect(("ring", 22), (("swap", 4, 0),), (), ((1, 0), (0, 1)))
        self.expect(("floor", 3, 6), (("over", 2, 2, 0), ("under", 1, 2, 0)), ((1, 1),), ((1, 1),))
        self.expect(
            ("floor", 6, 6), (("over", 2, 2, 0), ("under", 1, 1, 0), ("under", 1, 3, 0)),
            ((1, 0), (0, 1)), (),
        )

    def test_floors_with_rows_or_columns_by_themselves(self):
        self.expect(("floor", 3, 3), (("over", 1, 1, 0),), ((1, 0, 0), (0, 1, 0), (0, 0, 1)), ())
        self.expect(("floor", 3, 3), (("over", 2, 1, 0),), ((1, 0, 1), (0, 1, 1)), ((1, 1, 1),))
        self.expect(("floor", 3, 3), (("under", 1, 2, 0),), ((1, 0, 1), (0, 1, 1)), ((1, 1, 1),))
        self.expect(
            ("floor", 5, 3), (("over", 3, 1, 0),),
            ((1, 0, 0, 1, 0), (0, 1, 0, 0, 1), (0, 0, 1, 1, 1)),
            ((1, 0, 1, 1, 0), (0, 1, 1, 0, 1)),
        )
        self.expect(
            ("floor", 3, 5), (("under", 1, 3, 1),),
            ((1, 0, 0, 1, 0), (0, 1, 0, 0, 1), (0, 0, 1, 1, 1)),
            ((1, 0, 1, 1, 0), (0, 1, 1, 0, 1)),
        )

    def test_many_classes(self):
        twelve = ("floor", 12, 3)
        self.expect(
            twelve, (("over", 1, 1, 0),),
            tuple(tuple(int(a == b) for b in range(12)) for a in range(12)), (),
        )
        self.expect(
            twelve, (("over", 2, 1, 0),),
            tuple(tuple(int(b in (a, 11)) for b in range(12)) for a in range(11)), ((1,) * 12,),
        )
        self.expect(
            ("row", 36), (("swap", 12, 0),), ((1,) * 12,),
            tuple(tuple(int(b in (a, 11)) for b in range(12)) for a in range(11)),
        )

    def test_each_board(self):
        for board in BOARDS:
            if size(board) <= 16:
                for rule in all_rules(board):
                    self.check(board, (rule,))
            for book in some_books(board, 4, seed=3):
                self.check(board, book)

    def test_greatest_boards(self):
        for board in GREATEST:
            for rule in all_rules(board):
                self.check(board, (rule,))

    def test_lots_are_all_of_them(self):
        for board in (
            ("row", 9), ("row", 12), ("row", 18), ("ring", 10), ("ring", 20), ("ring", 30),
            ("floor", 3, 3), ("floor", 5, 3), ("floor", 3, 5), ("floor", 6, 4), ("floor", 3, 9),
        ):
            for book in some_books(board, 12, seed=5):
                many = len(classes_by_hand(board, book))
                rows = {row_by_hand(board, book, deed) for deed in deeds_by_hand(board, book)}
                due = {
                    lot for lot in itertools.product((0, 1), repeat=many)
                    if all(in_common(lot, row) % 2 == 0 for row in rows)
                }
                with self.subTest(board=board, book=book):
                    self.assertEqual(all_sums(lots_of(board, book), many), due)

    def test_what_is_handed_in_stays(self):
        board, book = ("floor", 5, 3), (("over", 3, 1, 0), ("over", 2, 1, 1))
        shown = repr((board, book))
        span_of(board, book)
        lots_of(board, book)
        sign_row(board, book, (0, 1))
        self.assertEqual(repr((board, book)), shown)


if __name__ == "__main__":
    unittest.main()
