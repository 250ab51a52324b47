import collections
import unittest

from stridelots import errors
from stridelots.books.doing import done
from stridelots.errors import NotEven
from stridelots.webs.classes import classes_of
from stridelots.webs.marks import is_even, kinds_of, marks_of
from tests.samples import (
    BOARDS, GREATEST, all_rules, is_plain, marks_by_hand, size, some_books, some_deeds,
    some_standing, ties_by_hand,
)

ABCDEF = (("a", 0), ("b", 1), ("c", 1), ("a", 1), ("b", 0), ("c", 0))


class Marks(unittest.TestCase):
    def even(self, board, book, marks):
        with self.subTest(board=board, book=book):
            self.assertIs(is_even(board, book), True)
            told = marks_of(board, book)
            self.assertEqual(told, marks)
            self.assertIs(type(told), tuple)
            self.assertTrue(is_plain(told))
            self.assertEqual(len(told), size(board))
            for a, b, bent in ties_by_hand(board, book):
                self.assertEqual(told[a] != told[b], bent == 1)
            for cells in classes_of(board, book):
                self.assertEqual(told[cells[0]], 0)
            self.assertEqual(marks_of(board, book), marks)
            self.assertIs(is_even(board, book), True)

    def uneven(self, board, book):
        with self.subTest(board=board, book=book):
            for _ in range(2):
                self.assertIs(is_even(board, book), False)
                with self.assertRaises(NotEven) as caught:
                    marks_of(board, book)
                self.assertIs(type(caught.exception), NotEven)

    def test_no_bent_rules(self):
        for board in BOARDS:
            straight = [rule for rule in all_rules(board) if rule[-1] == 0]
            for rule in straight:
                self.even(board, (rule,), (0,) * size(board))
            if straight:
                self.even(board, tuple(straight[:4]), (0,) * size(board))

    def test_a_bent_rule_alone(self):
        self.even(("row", 3), (("swap", 1, 1),), (0, 1, 0))
        self.even(("row", 6), (("swap", 1, 1),), (0, 1, 0, 1, 0, 1))
        self.even(("row", 7), (("swap", 2, 1),), (0, 0, 1, 1, 0, 0, 1))
        self.even(("row", 9), (("swap", 3, 1),), (0, 0, 0, 1, 1, 1, 0, 0, 0))
        self.even(("floor", 3, 3), (("over", 2, 1, 1),), (0, 1, 0) * 3)
        self.even(("floor", 3, 3), (("under", 1, 2, 1),), (0, 0, 0, 1, 1, 1, 0, 0, 0))

    def test_rings_with_a_bent_rule_alone(self):
        self.even(("ring", 6), (("swap", 1, 1),), (0, 1) * 3)
        self.even(("ring", 36), (("swap", 1, 1),), (0, 1) * 18)
        self.uneven(("ring", 5), (("swap", 1, 1),))
        self.uneven(("ring", 35), (("swap", 1, 1),))
        # A way round by steps of two has five ties here, all bent.
        self.uneven(("ring", 10), (("swap", 2, 1),))
        self.even(("ring", 12), (("swap", 2, 1),), (0, 0, 1, 1) * 3)
        self.uneven(("ring", 11), (("swap", 2, 1),))

    def test_bent_and_straight_ones(self):
        self.even(("row", 6), (("swap", 1, 1), ("swap", 2, 0)), (0, 1) * 3)
        self.uneven(("row", 6), (("swap", 1, 0), ("swap", 2, 1)))
        self.uneven(("row", 6), (("swap", 1, 1), ("swap", 2, 1)))
        self.even(("row", 9), (("swap", 1, 1), ("swap", 3, 1), ("swap", 2, 0)), (0, 1) * 4 + (0,))
        self.uneven(("row", 9), (("swap", 1, 1), ("swap", 3, 0)))
        self.even(("ring", 10), (("swap", 1, 1), ("swap", 2, 0)), (0, 1) * 5)
        self.uneven(("ring", 11), (("swap", 1, 1), ("swap", 2, 0)))
        self.uneven(("ring", 10), (("swap", 1, 0), ("swap", 2, 1)))

    def test_rules_that_exchange_the_same_two_cells(self):
        self.uneven(("row", 6), (("swap", 1, 0), ("swap", 1, 1)))
        self.uneven(("row", 6), (("swap", 2, 1), ("swap", 2, 0)))
        self.uneven(("ring", 6), (("swap", 1, 0), ("swap", 1, 1)))
        self.uneven(("floor", 3, 3), (("over", 1, 1, 0), ("over", 2, 1, 1)))
        self.uneven(("floor", 3, 3), (("under", 1, 2, 0), ("under", 1, 1, 1)))
        self.even(("floor", 3, 3), (("over", 1, 1, 1), ("over", 2, 1, 1)), (0, 1, 0) * 3)

    def test_floors_with_over_and_under(self):
        board = ("floor", 3, 3)
        chess = (0, 1, 0, 1, 0, 1, 0, 1, 0)
        rows = (0, 0, 0, 1, 1, 1, 0, 0, 0)
        self.even(board, (("over", 1, 1, 1), ("under", 1, 1, 1)), chess)
        self.even(board, (("over", 1, 1, 0), ("under", 1, 1, 1)), rows)
        self.even(board, (("over", 1, 1, 1), ("under", 1, 1, 0)), (0, 1, 0) * 3)
        self.even(board, (("over", 2, 1, 1), ("under", 1, 2, 1)), chess)
        self.uneven(board, (("over", 1, 1, 1), ("under", 1, 1, 1), ("over", 2, 1, 0)))
        wide = ("floor", 3, 6)
        self.even(wide, (("over", 1, 1, 1), ("over", 1, 2, 0), ("under", 1, 1, 0)), (0, 1) * 9)
        self.uneven(wide, (("over", 1, 1, 1), ("over", 1, 2, 1), ("under", 1, 1, 0)))
        self.even(wide, (("over", 1, 2, 1), ("under", 1, 3, 0)), (0, 0, 1, 1, 0, 0) * 3)

    def test_against_hand(self):
        found = set()
        for board in BOARDS:
            books = [(rule,) for rule in all_rules(board)] + some_books(board, 12)
            for book in books:
                marks = marks_by_hand(board, book)
                found.add((board[0], marks is None))
                if marks is None:
                    self.uneven(board, book)
                else:
                    self.even(board, book, marks)
        self.assertEqual(len(found), 6)

    def test_refusal(self):
        with self.assertRaises(errors.StrideError) as caught:
            marks_of(("ring", 5), (("swap", 1, 1),))
        self.assertIsInstance(caught.exception, ValueError)
        self.assertIsInstance(str(caught.exception), str)
        for name in (
            "NoStanding", "NoBook", "NoDeed", "NoTurning", "NoRound", "NoPair", "Barred", "TooMany",
            "Few", "NoPlan", "NoName", "Full",
        ):
            self.assertNotIsInstance(caught.exception, getattr(errors, name))


class Kinds(unittest.TestCase):
    def expect(self, board, book, standing, kinds):
        with self.subTest(board=board, book=book):
            told = kinds_of(board, book, standing)
            self.assertEqual(told, kinds)
            self.assertIs(type(told), tuple)
            self.assertTrue(is_plain(told))
            self.assertEqual(kinds_of(board, book, standing), kinds)

    def test_pairs_where_the_marks_are_0(self):
        for board, book in (
            (("row", 6), (("swap", 1, 0), ("swap", 2, 0))),
            (("ring", 6), (("swap", 1, 0),)),
            (("floor", 2, 3), (("over", 1, 1, 0),)),
        ):
            self.expect(board, book, ABCDEF, ABCDEF)

    def test_pairs_of_faces_and_marks(self):
        by_turns = (("a", 0), ("b", 0), ("c", 1), ("a", 0), ("b", 0), ("c", 1))
        for board, book in (
            (("row", 6), (("swap", 1, 1),)), (("row", 6), (("swap", 1, 1), ("swap", 2, 0))),
            (("ring", 6), (("swap", 1, 1),)),
        ):
            self.expect(board, book, ABCDEF, by_turns)
        self.expect(
            ("floor", 2, 3), (("over", 1, 1, 1),), ABCDEF,
            (("a", 0), ("b", 0), ("c", 1), ("a", 1), ("b", 1), ("c", 0)),
        )
        self.expect(
            ("floor", 3, 2), (("under", 1, 1, 1),), ABCDEF,
            (("a", 0), ("b", 1), ("c", 0), ("a", 0), ("b", 0), ("c", 0)),
        )

    def test_all_up_and_all_down(self):
        self.expect(("row", 3), (("swap", 1, 1),), (("a", 0),) * 3, (("a", 0), ("a", 1), ("a", 0)))
        self.expect(("row", 3), (("swap", 1, 1),), (("a", 1),) * 3, (("a", 1), ("a", 0), ("a", 1)))

    def test_names(self):
        names = ("a", "b", "c", "a", "b", "c")
        self.expect(("row", 6), (("swap", 1, 0), ("swap", 1, 1)), ABCDEF, names)
        self.expect(("row", 6), (("swap", 1, 1), ("swap", 2, 1)), ABCDEF, names)
        self.expect(("ring", 5), (("swap", 1, 1),), ABCDEF[:5], names[:5])
        self.expect(("ring", 5), (("swap", 1, 1),), (("abcd", 1),) * 5, ("abcd",) * 5)

    def test_against_marks(self):
        for board in BOARDS:
            for book in some_books(board, 6):
                standing = some_standing(board)
                marks = marks_by_hand(board, book)
                if marks is None:
                    due = tuple(name for name, _ in standing)
                else:
                    due = tuple((name, face ^ mark) for (name, face), mark in zip(standing, marks))
                self.expect(board, book, standing, due)

    def test_as_often_behind_deeds(self):
        for board in (*GREATEST, ("row", 7), ("ring", 12), ("ring", 11), ("floor", 3, 5)):
            for book in some_books(board, 8):
                before = some_standing(board, names="abc")
                behind = done(board, book, before, some_deeds(board, book, 30))
                one, other = kinds_of(board, book, before), kinds_of(board, book, behind)
                for cells in classes_of(board, book):
                    counts = [collections.Counter(kinds[x] for x in cells) for kinds in (one, other)]
                    self.assertEqual(counts[0], counts[1])

    def test_what_is_handed_in_stays(self):
        board, book, standing = ("row", 6), (("swap", 1, 1), ("swap", 2, 0)), tuple(ABCDEF)
        shown = repr((board, book, standing))
        kinds_of(board, book, standing)
        marks_of(board, book)
        is_even(board, book)
        self.assertEqual(repr((board, book, standing)), shown)


if __name__ == "__main__":
    unittest.main()
