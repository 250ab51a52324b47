import unittest

from stridelots.boards.cells import MOST_CELLS, cells_many


class Cells(unittest.TestCase):
    def expect(self, board, many):
        with self.subTest(board=board):
            told = cells_many(board)
            self.assertEqual(told, many)
            self.assertIs(type(told), int)
            self.assertEqual(cells_many(board), many)

    def test_most(self):
        self.assertEqual(MOST_CELLS, 36)
        self.assertIs(type(MOST_CELLS), int)

    def test_rows(self):
        for n in range(3, 37):
            self.expect(("row", n), n)

    def test_rings(self):
        for n in range(5, 37):
            self.expect(("ring", n), n)

    def test_floors(self):
        self.expect(("floor", 2, 3), 6)
        self.expect(("floor", 3, 2), 6)
        self.expect(("floor", 4, 5), 20)
        self.expect(("floor", 5, 7), 35)

    def test_smallest_floor(self):
        self.expect(("floor", 1, 1), 1)

    def test_floors_of_one_row_or_column(self):
        for n in (1, 2, 7, 36):
            self.expect(("floor", 1, n), n)
            self.expect(("floor", n, 1), n)

    def test_greatest_boards(self):
        for high in (1, 2, 3, 4, 6, 9, 12, 18, 36):
            self.expect(("floor", high, 36 // high), 36)
        self.expect(("row", 36), 36)
        self.expect(("ring", 36), 36)


if __name__ == "__main__":
    unittest.main()
