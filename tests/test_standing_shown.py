import unittest

from stridelots.boards.texts import standing_shown

ABCD = (("a", 0), ("b", 1), ("c", 0), ("d", 1))


class Shown(unittest.TestCase):
    def expect(self, board, standing, text):
        with self.subTest(board=board, text=text):
            told = standing_shown(board, standing)
            self.assertEqual(told, text)
            self.assertIs(type(told), str)
            self.assertEqual(standing_shown(board, standing), text)

    def test_rows(self):
        self.expect(("row", 3), (("a", 0), ("b", 0), ("c", 0)), "a b c")
        self.expect(("row", 4), ABCD, "a -b c -d")

    def test_rings(self):
        self.expect(("ring", 5), ABCD + (("e", 0),), "a -b c -d e")

    def test_floors(self):
        self.expect(("floor", 2, 2), ABCD, "a -b / c -d")
        six = ABCD + (("e", 0), ("f", 0))
        self.expect(("floor", 2, 3), six, "a -b c / -d e f")
        self.expect(("floor", 3, 2), six, "a -b / c -d / e f")

    def test_floors_of_one_row_or_column(self):
        self.expect(("floor", 1, 4), ABCD, "a -b c -d")
        self.expect(("floor", 4, 1), ABCD, "a / -b / c / -d")
        self.expect(("floor", 1, 1), (("a", 0),), "a")
        self.expect(("floor", 1, 1), (("a", 1),), "-a")

    def test_names_of_one_to_four_letters(self):
        standing = (("z", 0), ("az", 1), ("xyz", 0), ("wxyz", 1))
        self.expect(("row", 4), standing, "z -az xyz -wxyz")
        self.expect(("floor", 2, 2), standing, "z -az / xyz -wxyz")

    def test_names_that_come_several_times(self):
        standing = (("a", 0), ("a", 1), ("a", 0), ("b", 1))
        self.expect(("row", 4), standing, "a -a a -b")
        self.expect(("floor", 2, 2), standing, "a -a / a -b")

    def test_all_up_and_all_down(self):
        self.expect(("row", 3), (("a", 0),) * 3, "a a a")
        self.expect(("row", 3), (("a", 1),) * 3, "-a -a -a")

    def test_greatest_boards(self):
        standing = (("abcd", 1),) * 36
        self.expect(("row", 36), standing, " ".join(["-abcd"] * 36))
        self.expect(("ring", 36), standing, " ".join(["-abcd"] * 36))
        row = " ".join(["-abcd"] * 6)
        self.expect(("floor", 6, 6), standing, " / ".join([row] * 6))
        self.expect(("floor", 36, 1), standing, " / ".join(["-abcd"] * 36))

    def test_a_bar_between_two_rows_and_nowhere_else(self):
        for high in range(1, 7):
            for wide in range(1, 7):
                standing = (("a", 0),) * (high * wide)
                words = standing_shown(("floor", high, wide), standing).split(" ")
                bars = [at for at, word in enumerate(words) if word == "/"]
                due = [r * (wide + 1) - 1 for r in range(1, high)]
                with self.subTest(high=high, wide=wide):
                    self.assertEqual(bars, due)


if __name__ == "__main__":
    unittest.main()
