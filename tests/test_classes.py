import math
import unittest

from stridelots.webs.classes import classes_of
from tests.samples import BOARDS, GREATEST, all_rules, classes_by_hand, is_plain, size, some_books


def by_rest(cells, rest):
    """The cells in parts that have one rest each, in the order of their first cells."""
    parts = {}
    for cell in range(cells):
        parts.setdefault(rest(cell), []).append(cell)
    return tuple(tuple(part) for part in parts.values())


def by_measure(board, book):
    """The classes as DOC.md tells them by greatest common measures."""
    if board[0] == "row":
        measure = math.gcd(*[k for _, k, _ in book])
        return by_rest(board[1], lambda cell: cell % measure)
    if board[0] == "ring":
        measure = math.gcd(board[1], *[k for _, k, _ in book])
        return by_rest(board[1], lambda cell: cell % measure)
    wide = board[2]
    heights = math.gcd(*[rule[1] for rule in book if rule[0] == "under"])
    widths = math.gcd(*[rule[2] for rule in book if rule[0] == "over"])
    # Where there are no such rules the measure is 0, and each is by itself.
    return by_rest(size(board), lambda cell: (
        cell // wide % heights if heights else cell // wide,
        cell % wide % widths if widths else cell % wide,
    ))


class Classes(unittest.TestCase):
    def expect(self, board, book, classes):
        with self.subTest(board=board, book=book):
            told = classes_of(board, book)
            self.assertEqual(told, classes)
            self.assertIs(type(told), tuple)
            self.assertTrue(is_plain(told))
            self.assertEqual([list(cells) for cells in told], [sorted(cells) for cells in told])
            self.assertEqual(list(told), sorted(told))
            self.assertEqual(sorted(sum(told, ())), list(range(size(board))))
            self.assertEqual(classes_of(board, book), classes)

    def test_one_class(self):
        for board, rule in (
            (("row", 3), ("swap", 1, 0)), (("row", 36), ("swap", 1, 1)),
            (("ring", 5), ("swap", 1, 0)), (("ring", 36), ("swap", 1, 1)),
            (("ring", 36), ("swap", 5, 0)), (("ring", 36), ("swap", 7, 0)),
            (("floor", 1, 3), ("over", 1, 1, 0)), (("floor", 36, 1), ("under", 1, 1, 0)),
        ):
            self.expect(board, (rule,), (tuple(range(size(board))),))

    def test_rows(self):
        self.expect(("row", 6), (("swap", 2, 0),), ((0, 2, 4), (1, 3, 5)))
        self.expect(("row", 9), (("swap", 3, 1),), ((0, 3, 6), (1, 4, 7), (2, 5, 8)))
        self.expect(("row", 7), (("swap", 2, 0),), ((0, 2, 4, 6), (1, 3, 5)))
        self.expect(("row", 6), (("swap", 2, 0), ("swap", 1, 0)), (tuple(range(6)),))
        self.expect(("row", 9), (("swap", 2, 0), ("swap", 3, 0)), (tuple(range(9)),))
        self.expect(
            ("row", 18), (("swap", 6, 0), ("swap", 4, 1)), (tuple(range(0, 18, 2)), tuple(range(1, 18, 2))),
        )
        self.expect(("row", 36), (("swap", 12, 0),), tuple((x, x + 12, x + 24) for x in range(12)))

    def test_rings(self):
        self.expect(("ring", 10), (("swap", 2, 0),), ((0, 2, 4, 6, 8), (1, 3, 5, 7, 9)))
        self.expect(("ring", 11), (("swap", 2, 0),), (tuple(range(11)),))
        self.expect(("ring", 36), (("swap", 6, 0),), tuple(tuple(range(x, 36, 6)) for x in range(6)))
        self.expect(
            ("ring", 36), (("swap", 6, 0), ("swap", 4, 1)), (tuple(range(0, 36, 2)), tuple(range(1, 36, 2))),
        )
        self.expect(("ring", 36), (("swap", 4, 0), ("swap", 7, 1)), (tuple(range(36)),))

    def test_floors_with_rows_by_themselves(self):
        rows = ((0, 1, 2), (3, 4, 5), (6, 7, 8))
        self.expect(("floor", 3, 3), (("over", 1, 1, 0),), rows)
        self.expect(("floor", 3, 3), (("over", 2, 1, 1),), rows)
        self.expect(("floor", 12, 3), (("over", 1, 1, 0),), tuple((x, x + 1, x + 2) for x in range(0, 36, 3)))
        self.expect(
            ("floor", 2, 6), (("over", 1, 2, 0),), ((0, 2, 4), (1, 3, 5), (6, 8, 10), (7, 9, 11)),
        )

    def test_floors_with_columns_by_themselves(self):
        columns = ((0, 3, 6), (1, 4, 7), (2, 5, 8))
        self.expect(("floor", 3, 3), (("under", 1, 1, 0),), columns)
        self.expect(("floor", 3, 3), (("under", 1, 2, 1),), columns)
        self.expect(("floor", 3, 12), (("under", 1, 1, 0),), tuple((x, x + 12, x + 24) for x in range(12)))
        self.expect(
            ("floor", 6, 2), (("under", 2, 1, 0),), ((0, 4, 8), (1, 5, 9), (2, 6, 10), (3, 7, 11)),
        )

    def test_floors_with_both(self):
        self.expect(("floor", 3, 3), (("over", 1, 1, 0), ("under", 1, 1, 0)), (tuple(range(9)),))
        self.expect(
            ("floor", 3, 6), (("over", 2, 2, 0), ("under", 1, 1, 1)),
            ((0, 2, 4, 6, 8, 10, 12, 14, 16), (1, 3, 5, 7, 9, 11, 13, 15, 17)),
        )
        self.expect(
            ("floor", 6, 6), (("over", 1, 2, 0), ("under", 2, 1, 0)),
            tuple(
                tuple(6 * r + c for r in range(row, 6, 2) for c in range(column, 6, 2))
                for row in (0, 1) for column in (0, 1)
            ),
        )

    def test_by_greatest_common_measures(self):
        for board in BOARDS:
            books = [(rule,) for rule in all_rules(board)] + some_books(board, 12)
            for book in books:
                self.expect(board, book, by_measure(board, book))

    def test_against_ties_joined_pair_by_pair(self):
        for board in BOARDS:
            books = [(rule,) for rule in all_rules(board)] + some_books(board, 4)
            for book in books:
                self.expect(board, book, classes_by_hand(board, book))

    def test_three_cells_at_least(self):
        for board in GREATEST:
            for book in some_books(board, 20):
                self.assertLessEqual(3, min(map(len, classes_of(board, book))))

    def test_what_is_handed_in_stays(self):
        board, book = ("floor", 6, 6), (("over", 1, 2, 0), ("under", 2, 1, 0))
        classes_of(board, book)
        self.assertEqual((board, book), (("floor", 6, 6), (("over", 1, 2, 0), ("under", 2, 1, 0))))


if __name__ == "__main__":
    unittest.main()
