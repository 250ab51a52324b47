import unittest

from stridelots import errors
from stridelots.errors import NoTurning, StrideError
from stridelots.signs.turns import turning_signs
from tests.samples import (
    BOARDS, GREATEST, classes_by_hand, done_by_hand, exchanged, is_plain, marks_by_hand, mixed,
    names_standing, pairs_by_hand, signs_by_hand, size, some_books, some_deeds, some_standings,
    turned_over, unlike_standing,
)

ABCDEF = tuple((name, 0) for name in "abcdef")
TWO = (("swap", 2, 0),)


def letters(word):
    return tuple((name, 0) for name in word)


def sum_of_sign_rows(board, book, deeds):
    signs = [0] * len(classes_by_hand(board, book))
    for number, cell in deeds:
        for a, _ in pairs_by_hand(board, book[number], cell):
            for at, cells in enumerate(classes_by_hand(board, book)):
                signs[at] ^= a in cells
    return tuple(map(int, signs))


class TurningSigns(unittest.TestCase):
    def expect(self, board, book, one, other, signs):
        with self.subTest(board=board, book=book, one=one, other=other):
            told = turning_signs(board, book, one, other)
            self.assertEqual(told, signs)
            self.assertIs(type(told), tuple)
            for sign in told:
                self.assertIn(type(sign), (int, type(None)))
            self.assertEqual(turning_signs(board, book, one, other), signs)

    def refused(self, board, book, one, other, at):
        with self.subTest(board=board, book=book, one=one, other=other):
            with self.assertRaises(NoTurning) as caught:
                turning_signs(board, book, one, other)
            self.assertIs(type(caught.exception), NoTurning)
            self.assertEqual(caught.exception.at, at)
            self.assertTrue(is_plain(caught.exception.at))

    def test_one_class(self):
        row, book = ("row", 6), (("swap", 1, 0),)
        for word, sign in (
            ("abcdef", 0), ("bacdef", 1), ("fbcdea", 1), ("bcadef", 0), ("cabdef", 0), ("bcdefa", 1),
            ("badcef", 0), ("fedcba", 1), ("badcfe", 1),
        ):
            self.expect(row, book, ABCDEF, letters(word), (sign,))
            self.expect(row, book, letters(word), ABCDEF, (sign,))

    def test_several_classes(self):
        for word, signs in (
            ("abcdef", (0, 0)), ("cbadef", (1, 0)), ("adcbef", (0, 1)), ("cdabef", (1, 1)),
            ("cbedaf", (0, 0)), ("cfedab", (0, 1)), ("cdefab", (0, 0)),
        ):
            self.expect(("row", 6), TWO, ABCDEF, letters(word), signs)

    def test_classes_with_two_of_one_kind(self):
        row = ("row", 6)
        self.expect(row, TWO, letters("abadef"), letters("abadef"), (None, 0))
        self.expect(row, TWO, letters("abadef"), letters("adabef"), (None, 1))
        self.expect(row, TWO, letters("abcbeb"), letters("cbabeb"), (1, None))
        self.expect(row, TWO, letters("ababab"), letters("ababab"), (None, None))
        self.expect(row, (("swap", 1, 0),), letters("abadef"), letters("fedaba"), (None,))

    def test_names_alike_with_unlike_marks_are_two_kinds(self):
        row, book = ("row", 3), (("swap", 1, 1),)
        # The middle cell's mark is 1.
        one = (("a", 0), ("a", 0), ("b", 0))
        self.expect(row, book, one, one, (0,))
        self.expect(row, book, one, (("a", 1), ("a", 1), ("b", 0)), (1,))
        self.expect(row, book, one, (("a", 1), ("b", 1), ("a", 0)), (0,))
        self.expect(row, book, (("a", 0), ("a", 1), ("b", 0)), (("a", 0), ("b", 1), ("a", 0)), (None,))

    def test_books_that_are_not_even(self):
        row, book = ("row", 3), (("swap", 1, 0), ("swap", 1, 1))
        one = (("a", 0), ("b", 0), ("c", 0))
        for faces in ((0, 0, 0), (1, 0, 0), (1, 1, 1)):
            for word, sign in (("abc", 0), ("bac", 1), ("bca", 0), ("cba", 1)):
                self.expect(row, book, one, tuple(zip(word, faces)), (sign,))
        # Of one name with unlike faces: of one kind.
        self.expect(row, book, (("a", 0), ("a", 1), ("c", 0)), (("c", 0), ("a", 0), ("a", 0)), (None,))

    def test_against_exchanges_counted(self):
        seen = set()
        for board in BOARDS:
            for at, book in enumerate(some_books(board, 4, seed=11)):
                for one in some_standings(board):
                    other = mixed(board, book, one, at)
                    signs = signs_by_hand(board, book, one, other)
                    seen |= {(board[0], len(signs) > 1, sign) for sign in signs}
                    self.expect(board, book, one, other, signs)
                    self.expect(board, book, one, one, tuple(sign and 0 for sign in signs))
        self.assertEqual(len(seen), 18)

    def test_one_exchange(self):
        for board in GREATEST:
            for book in some_books(board, 4, seed=12):
                one = unlike_standing(board)
                classes = classes_by_hand(board, book)
                for at, cells in enumerate(classes):
                    other = exchanged(board, book, one, cells[0], cells[-1])
                    self.expect(board, book, one, other, tuple(int(x == at) for x in range(len(classes))))

    def test_behind_deeds(self):
        for board in BOARDS:
            for book in some_books(board, 4, seed=13):
                one = unlike_standing(board)
                for many in (1, 2, 9):
                    deeds = some_deeds(board, book, many)
                    other = done_by_hand(board, book, one, deeds)
                    self.expect(board, book, one, other, sum_of_sign_rows(board, book, deeds))

    def test_refused_in_one_class(self):
        row, book = ("row", 6), (("swap", 1, 0),)
        self.refused(row, book, ABCDEF, letters("abcdeg"), 0)
        self.refused(row, book, ABCDEF, letters("abcdea"), 0)
        self.refused(row, book, letters("aabbcc"), letters("aaabcc"), 0)
        # A thing turned over is of another kind here.
        self.refused(row, book, ABCDEF, turned_over(ABCDEF, 3), 0)

    def test_refused_in_several_classes(self):
        row = ("row", 6)
        self.refused(row, TWO, ABCDEF, letters("bacdef"), 0)
        self.refused(row, TWO, ABCDEF, letters("abcdeg"), 1)
        self.refused(row, TWO, ABCDEF, letters("abgdeg"), 0)
        # Also where this class, or one ahead, has two things of one kind.
        self.refused(row, TWO, letters("abadef"), letters("abgdef"), 0)
        self.refused(row, TWO, letters("abadef"), letters("abcdea"), 0)
        self.refused(row, TWO, letters("abadeb"), letters("adabeg"), 1)
        self.refused(row, TWO, letters("abadef"), letters("abadeg"), 1)
        self.refused(row, TWO, letters("abcdef"), letters("abcded"), 1)

    def test_refused_against_hand(self):
        for board in GREATEST:
            for book in some_books(board, 6, seed=14):
                classes = classes_by_hand(board, book)
                for one in some_standings(board):
                    for at, cells in enumerate(classes):
                        # Other things in this class, and in a later one.
                        changed = [cells[-1], classes[-1][0]]
                        other = tuple(("zzzz", 0) if x in changed else thing for x, thing in enumerate(one))
                        self.refused(board, book, one, other, at)

    def test_faces_refused_in_even_books_alone(self):
        for board in GREATEST:
            for book in some_books(board, 4, seed=15):
                one = unlike_standing(board)
                last = classes_by_hand(board, book)[-1]
                other = turned_over(one, last[1])
                if marks_by_hand(board, book) is None:
                    self.expect(board, book, one, other, (0,) * len(classes_by_hand(board, book)))
                else:
                    self.refused(board, book, one, other, len(classes_by_hand(board, book)) - 1)

    def test_refusal(self):
        with self.assertRaises(StrideError) as caught:
            turning_signs(("row", 6), TWO, ABCDEF, letters("bacdef"))
        self.assertIsInstance(caught.exception, ValueError)
        for name in (
            "NoStanding", "NoBook", "NoDeed", "NotEven", "NoRound", "NoPair", "Barred", "TooMany",
            "Few", "NoPlan", "NoName", "Full",
        ):
            self.assertNotIsInstance(caught.exception, getattr(errors, name))

    def test_what_is_handed_in_stays(self):
        board, book = ("floor", 3, 6), (("over", 2, 2, 1), ("under", 1, 2, 0))
        one = names_standing(board, ("a", "b"))
        other = mixed(board, book, one)
        shown = repr((board, book, one, other))
        turning_signs(board, book, one, other)
        self.assertEqual(repr((board, book, one, other)), shown)
        self.assertEqual(len(one), size(board))


if __name__ == "__main__":
    unittest.main()
