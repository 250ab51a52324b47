import itertools
import unittest

from stridelots.boards.texts import read_standing, standing_shown
from stridelots.errors import NoStanding

ROW = ("row", 4)
RING = ("ring", 5)
FLOOR = ("floor", 2, 2)

NO_THINGS = [
    "A", "Ab", "aB", "-A", "7", "a7", "-7", "abcde", "-abcde", "-", "--", "--a",
    "-a-", "a-", "a-b", "", "a\n", "\na", "\n", "a\nb", "-\na", "a/", "/a", "//",
    "-/", "a.", "a_", "a,b", "a\tb", "a'",
]


def text_of(words):
    return " ".join(words)


class Read(unittest.TestCase):
    def expect(self, board, text, standing):
        with self.subTest(board=board, text=text):
            told = read_standing(board, text)
            self.assertEqual(told, standing)
            self.assertIs(type(told), tuple)
            for thing in told:
                self.assertIs(type(thing), tuple)
                self.assertEqual([type(part) for part in thing], [str, int])
            self.assertEqual(read_standing(board, text), standing)

    def test_rows(self):
        self.expect(("row", 3), "a b c", (("a", 0), ("b", 0), ("c", 0)))
        self.expect(ROW, "a -b c -d", (("a", 0), ("b", 1), ("c", 0), ("d", 1)))

    def test_floors(self):
        four = (("a", 0), ("b", 1), ("c", 0), ("d", 1))
        self.expect(FLOOR, "a -b / c -d", four)
        self.expect(("floor", 4, 1), "a / -b / c / -d", four)
        self.expect(("floor", 1, 4), "a -b c -d", four)
        self.expect(("floor", 1, 1), "-a", (("a", 1),))

    def test_row_and_ring_of_as_many_cells(self):
        text = "a -b cc -ddd eeee"
        five = (("a", 0), ("b", 1), ("cc", 0), ("ddd", 1), ("eeee", 0))
        self.expect(("row", 5), text, five)
        self.expect(("ring", 5), text, five)

    def test_what_is_shown_is_read(self):
        names = ["a", "z", "ab", "xyz", "wxyz", "a", "mm"]
        boards = [("row", n) for n in range(3, 37)]
        boards += [("ring", n) for n in range(5, 37)]
        boards += [
            ("floor", high, wide)
            for high in range(1, 37) for wide in range(1, 36 // high + 1)
        ]
        for board in boards:
            many = board[1] if len(board) == 2 else board[1] * board[2]
            standing = tuple(
                (names[k * k % 7], (k * k // 3 + k) % 2) for k in range(many)
            )
            self.expect(board, standing_shown(board, standing), standing)


class Refused(unittest.TestCase):
    def refused(self, board, text, at):
        with self.subTest(board=board, text=text):
            for _ in range(2):
                with self.assertRaises(NoStanding) as caught:
                    read_standing(board, text)
                self.assertEqual(caught.exception.at, at)
                self.assertIs(type(caught.exception.at), int)

    def test_no_thing(self):
        for board, words in [
            (ROW, ["a", "b", "c", "d"]),
            (RING, ["a", "-b", "c", "-d", "e"]),
            (FLOOR, ["a", "b", "/", "c", "d"]),
            (("floor", 1, 1), ["a"]),
        ]:
            for at, due in enumerate(words):
                for wrong in NO_THINGS + ["/"] * (due != "/"):
                    text = text_of(words[:at] + [wrong] + words[at + 1:])
                    self.refused(board, text, at)

    def test_every_sign(self):
        letters = "abcdefghijklmnopqrstuvwxyz"
        for code in range(ord(" "), ord("~") + 1):
            sign = chr(code)
            if sign in letters:
                read = read_standing(ROW, f"a {sign} c d")
                self.assertEqual(read[1], (sign, 0))
            elif sign not in " %":
                self.refused(ROW, f"a {sign} c d", 1)
                self.refused(ROW, f"a b{sign} c d", 1)
                if sign != "-":
                    self.refused(ROW, f"a {sign}b c d", 1)

    def test_thing_where_a_bar_is_due(self):
        self.refused(FLOOR, "a b c / d", 2)
        self.refused(FLOOR, "a b -c d", 2)
        self.refused(("floor", 3, 1), "a / b c", 3)
        self.refused(("floor", 2, 3), "a b c d / e f", 3)

    def test_bar_where_a_thing_is_due(self):
        self.refused(FLOOR, "/ a b / c d", 0)
        self.refused(FLOOR, "a / b / c d", 1)
        self.refused(FLOOR, "a b / / c d", 3)
        self.refused(FLOOR, "a b / c /", 4)
        self.refused(("floor", 1, 3), "a / b c", 1)

    def test_bar_in_a_row_or_a_ring(self):
        self.refused(ROW, "a b / c d", 2)
        self.refused(ROW, "/ a b c d", 0)
        self.refused(ROW, "a b c d /", 4)
        self.refused(RING, "a b / c d e", 2)
        self.refused(RING, "a b c d e /", 5)

    def test_word_too_many(self):
        self.refused(ROW, "a b c d e", 4)
        self.refused(ROW, "a b c d e f", 4)
        self.refused(ROW, "a b c d A", 4)
        self.refused(RING, "a b c d e f", 5)
        self.refused(FLOOR, "a b / c d e", 5)
        self.refused(FLOOR, "a b / c d /", 5)
        self.refused(FLOOR, "a b / c d / e f", 5)
        self.refused(("floor", 1, 1), "a /", 1)
        self.refused(("floor", 1, 1), "a b", 1)

    def test_words_that_lack(self):
        self.refused(ROW, "a", 1)
        self.refused(ROW, "a b c", 3)
        self.refused(RING, "a b c d", 4)
        self.refused(FLOOR, "a", 1)
        self.refused(FLOOR, "a b", 2)
        self.refused(FLOOR, "a b /", 3)
        self.refused(FLOOR, "a b / c", 4)
        self.refused(("floor", 36, 1), "a", 1)

    def test_first_of_several_faults(self):
        self.refused(ROW, "A B C D", 0)
        self.refused(ROW, "a 7 c -", 1)
        self.refused(ROW, "a 7 c", 1)
        self.refused(ROW, "a b C d e", 2)
        self.refused(FLOOR, "a b c d E", 2)
        self.refused(FLOOR, "a -", 1)

    def test_text_without_signs(self):
        for board in (ROW, RING, FLOOR, ("floor", 1, 1)):
            self.refused(board, "", 0)

    def test_blanks(self):
        self.refused(ROW, " a b c d", 0)
        self.refused(ROW, " ", 0)
        self.refused(ROW, "a  b c d", 1)
        self.refused(ROW, "a b c  d", 3)
        self.refused(ROW, "a b c d ", 4)
        self.refused(ROW, "a b c ", 3)
        self.refused(FLOOR, "a b  / c d", 2)
        self.refused(FLOOR, "a b /  c d", 3)
        self.refused(FLOOR, "a b / c d ", 5)
        self.refused(("floor", 1, 1), "a ", 1)

    def test_line_ends(self):
        self.refused(ROW, "\na b c d", 0)
        self.refused(ROW, "a b\nc d", 1)
        self.refused(ROW, "a b\n c d", 1)
        self.refused(ROW, "a b \nc d", 2)
        self.refused(ROW, "a b \n c d", 2)
        self.refused(ROW, "a b c d\n", 3)
        self.refused(ROW, "a b c d \n", 4)
        self.refused(ROW, "\n", 0)
        self.refused(FLOOR, "a b\n/ c d", 1)
        self.refused(FLOOR, "a b /\nc d", 2)
        self.refused(FLOOR, "a b / c d\n", 4)

    def test_bar_that_is_no_word_of_its_own(self):
        self.refused(FLOOR, "a b/ c d", 1)
        self.refused(FLOOR, "a b /c d", 2)
        self.refused(FLOOR, "a b/c d", 1)
        self.refused(FLOOR, "a b // c d", 2)
        self.refused(FLOOR, "a b -/ c d", 2)

    def test_standing_of_another_board(self):
        self.refused(("floor", 3, 2), "a b c / d e f", 2)
        self.refused(("floor", 2, 3), "a b / c d / e f", 2)
        self.refused(("row", 6), "a b c / d e f", 3)
        self.refused(("floor", 2, 3), "a b c d e f", 3)
        self.refused(("row", 5), "a b c d", 4)
        self.refused(("row", 4), "a b c d e", 4)

    def test_long_texts(self):
        self.refused(ROW, "a" * 3000, 0)
        self.refused(ROW, " " * 3000, 0)
        self.refused(ROW, "\n" * 3000, 0)
        self.refused(("row", 36), "a " * 1500, 36)
        self.refused(("floor", 36, 1), "a / " * 750, 71)

    def test_all_short_texts(self):
        # What is due is told here by all right texts themselves: at is how many
        # words, from the first on, begin one of them.
        for board, high, wide in [
            (("row", 3), 1, 3),
            (("floor", 2, 1), 2, 1),
            (("floor", 1, 2), 1, 2),
            (("floor", 2, 2), 2, 2),
            (("floor", 3, 1), 3, 1),
        ]:
            row = ["thing"] * wide
            due = (row + ["/"]) * (high - 1) + row
            choices = [["a", "-b"] if word == "thing" else ["/"] for word in due]
            right = list(itertools.product(*choices))
            begins = {words[:k] for words in right for k in range(len(due) + 1)}
            for many in range(1, 7):
                for words in itertools.product(["a", "-b", "/", "", "A"], repeat=many):
                    self.check(board, words, words in right, begins)

    def check(self, board, words, is_right, begins):
        try:
            read_standing(board, text_of(words))
            at = None
        except NoStanding as refusal:
            at = refusal.at
        good = max(k for k in range(len(words) + 1) if words[:k] in begins)
        due = None if is_right else good
        if at != due:
            self.fail(f"{board} {words}: {at}, not {due}")


if __name__ == "__main__":
    unittest.main()
