import itertools
import random
import unittest

from stridelots import errors
from stridelots.errors import NoPair, NoRound, StrideError
from stridelots.ways.rounds import pair_turned, round_of
from tests.samples import (
    BOARDS, GREATEST, all_rules, classes_by_hand, deeds_by_hand, done_by_hand, marks_by_hand, size,
    some_books, turned_over, unlike_standing,
)

OTHERS = [
    "NoStanding", "NoBook", "NoDeed", "NoTurning", "NotEven", "NoRound", "NoPair", "Barred",
    "TooMany", "Few", "NoPlan", "NoName", "Full",
]
FAR = [-1, -2, -36, -(10 ** 20), 36, 37, 10 ** 20]

# Books that are not even, with one class and several, in each sort of board.
UNEVEN = [
    (("row", 3), (("swap", 1, 0), ("swap", 1, 1))),
    (("row", 6), (("swap", 2, 1), ("swap", 2, 0))),
    (("row", 8), (("swap", 2, 1), ("swap", 1, 0))),
    (("row", 9), (("swap", 2, 1), ("swap", 3, 1))),
    (("row", 18), (("swap", 4, 1), ("swap", 6, 1))),
    (("row", 36), (("swap", 9, 1), ("swap", 11, 1), ("swap", 10, 1))),
    (("row", 36), (("swap", 1, 0), ("swap", 12, 1))),
    (("ring", 5), (("swap", 1, 1),)),
    (("ring", 35), (("swap", 1, 1),)),
    (("ring", 35), (("swap", 5, 1),)),
    (("ring", 36), (("swap", 7, 1), ("swap", 4, 1))),
    (("floor", 3, 3), (("over", 1, 1, 0), ("over", 2, 1, 1))),
    (("floor", 6, 6), (("over", 3, 2, 1), ("over", 1, 1, 1), ("under", 1, 1, 1))),
    (("floor", 6, 6), (("under", 1, 1, 1), ("over", 3, 1, 0), ("under", 2, 3, 1), ("over", 1, 1, 0))),
    (("floor", 4, 9), (("over", 2, 3, 1), ("over", 2, 3, 0))),
]


class Row(unittest.TestCase):
    def row(self, board, book, deeds):
        """What is told is a row of deeds of the book, of 20000 at most."""
        self.assertIs(type(deeds), tuple)
        self.assertLessEqual(len(deeds), 20000)
        self.assertLessEqual(set(deeds), set(deeds_by_hand(board, book)))
        for deed in deeds:
            self.assertIs(type(deed), tuple)
            self.assertEqual([type(part) for part in deed], [int, int])

    def refused(self, kind, call, *handed):
        with self.subTest(call=call.__name__, handed=handed):
            with self.assertRaises(kind) as caught:
                call(*handed)
            self.assertIs(type(caught.exception), kind)
            self.assertIsInstance(caught.exception, StrideError)
            self.assertIsInstance(caught.exception, ValueError)
            self.assertIsInstance(str(caught.exception), str)
            for name in OTHERS:
                if name != kind.__name__:
                    self.assertNotIsInstance(caught.exception, getattr(errors, name))


class Rounds(Row):
    def check(self, board, book, x, y, z):
        with self.subTest(board=board, book=book, cells=(x, y, z)):
            deeds = round_of(board, book, x, y, z)
            self.row(board, book, deeds)
            one = unlike_standing(board)
            other = done_by_hand(board, book, one, deeds)
            for cell, goal in ((x, y), (y, z), (z, x)):
                self.assertEqual(other[goal][0], one[cell][0])
            for cell in set(range(size(board))) - {x, y, z}:
                self.assertEqual(other[cell], one[cell])
            self.assertEqual(round_of(board, book, x, y, z), deeds)

    def test_all_of_small_classes(self):
        for board, book in (
            (("row", 3), (("swap", 1, 0),)), (("row", 3), (("swap", 1, 1),)), (("row", 5), (("swap", 1, 1),)),
            (("row", 6), (("swap", 2, 1),)), (("row", 9), (("swap", 3, 0),)), (("row", 8), (("swap", 2, 0),)),
            (("ring", 5), (("swap", 1, 1),)), (("ring", 7), (("swap", 1, 0), ("swap", 1, 1))),
            (("ring", 10), (("swap", 2, 0),)), (("ring", 12), (("swap", 2, 1),)),
            (("floor", 1, 3), (("over", 1, 1, 0),)), (("floor", 3, 1), (("under", 1, 1, 1),)),
            (("floor", 3, 3), (("over", 2, 1, 1),)), (("floor", 3, 3), (("under", 1, 2, 0),)),
            (("floor", 5, 3), (("over", 3, 1, 0),)), (("floor", 3, 5), (("under", 1, 3, 1),)),
            (("floor", 2, 3), (("over", 1, 1, 0), ("over", 1, 1, 1))),
            (("floor", 3, 3), (("over", 2, 1, 1), ("under", 1, 2, 1))),
        ):
            for cells in classes_by_hand(board, book):
                for three in itertools.permutations(cells, 3):
                    self.check(board, book, *three)

    def test_each_rule_by_itself(self):
        for board in BOARDS:
            for rule in all_rules(board):
                if size(board) in (9, 15, 24, 35, 36):
                    chance = random.Random(f"{board} {rule}")
                    for cells in classes_by_hand(board, (rule,))[:1] + classes_by_hand(board, (rule,))[-1:]:
                        self.check(board, (rule,), *chance.sample(cells, 3))

    def test_near_and_far_ones(self):
        for board in BOARDS:
            for book in some_books(board, 4, seed=40):
                chance = random.Random(f"{board} {book}")
                for cells in classes_by_hand(board, book)[:4]:
                    threes = [cells[:3], cells[-3:], (cells[0], cells[len(cells) // 2], cells[-1])]
                    for three in threes:
                        self.check(board, book, *chance.sample(three, 3))

    def test_all_orders_on_great_boards(self):
        for board in GREATEST:
            for book in some_books(board, 4, seed=41) + [(rule,) for rule in all_rules(board)[:2]]:
                cells = classes_by_hand(board, book)[-1]
                for three in itertools.permutations((cells[0], cells[1], cells[-1])):
                    self.check(board, book, *three)

    def test_books_that_are_not_even(self):
        for board, book in UNEVEN:
            chance = random.Random(f"{board} {book}")
            for cells in classes_by_hand(board, book):
                for _ in range(12):
                    self.check(board, book, *chance.sample(cells, 3))

    def test_alike_cells(self):
        for board, book in ((("row", 6), (("swap", 2, 0),)), *UNEVEN):
            a, b = classes_by_hand(board, book)[0][:2]
            for three in ((a, a, b), (a, b, a), (b, a, a), (a, a, a)):
                self.refused(NoRound, round_of, board, book, *three)

    def test_cells_of_other_classes(self):
        for board, book in (
            (("row", 6), (("swap", 2, 0),)), (("row", 36), (("swap", 12, 1),)), (("ring", 36), (("swap", 4, 1),)),
            (("floor", 3, 3), (("over", 1, 1, 0),)), (("floor", 6, 6), (("under", 1, 2, 1),)),
        ):
            classes = classes_by_hand(board, book)
            for other in classes[1:]:
                for three in itertools.permutations(classes[0][:2] + other[:1]):
                    self.refused(NoRound, round_of, board, book, *three)
            if len(classes) > 2:
                self.refused(NoRound, round_of, board, book, *[cells[0] for cells in classes[:3]])

    def test_no_cells(self):
        for board, book in ((("row", 36), (("swap", 1, 0),)), (("ring", 36), (("swap", 1, 1),)), *UNEVEN):
            a, b = classes_by_hand(board, book)[0][:2]
            for cell in FAR + [size(board)]:
                for three in itertools.permutations((a, b, cell)):
                    self.refused(NoRound, round_of, board, book, *three)
            self.refused(NoRound, round_of, board, book, size(board), size(board) + 1, size(board) + 2)
            self.refused(NoRound, round_of, board, book, -1, -2, -3)

    def test_what_is_handed_in_stays(self):
        board, book = UNEVEN[-1]
        shown = repr((board, book))
        round_of(board, book, *classes_by_hand(board, book)[0][:3])
        pair_turned(board, book, *classes_by_hand(board, book)[0][:2])
        self.assertEqual(repr((board, book)), shown)


class Pairs(Row):
    def check(self, board, book, x, y):
        with self.subTest(board=board, book=book, cells=(x, y)):
            deeds = pair_turned(board, book, x, y)
            self.row(board, book, deeds)
            one = unlike_standing(board)
            self.assertEqual(done_by_hand(board, book, one, deeds), turned_over(one, x, y))
            self.assertEqual(pair_turned(board, book, x, y), deeds)

    def test_samples_are_not_even(self):
        for board, book in UNEVEN:
            self.assertIsNone(marks_by_hand(board, book))

    def test_all_pairs(self):
        for board, book in UNEVEN:
            for cells in classes_by_hand(board, book):
                pairs = list(itertools.permutations(cells, 2))
                for x, y in pairs[::1 + len(pairs) // 60]:
                    self.check(board, book, x, y)

    def test_each_board(self):
        seen = set()
        for board in BOARDS:
            books = some_books(board, 8, seed=42)
            rules = all_rules(board)[:2]
            for book in books + [tuple(rules)] * (len(rules) == 2):
                if marks_by_hand(board, book) is None:
                    seen.add((board[0], len(book)))
                    for cells in classes_by_hand(board, book)[:2]:
                        self.check(board, book, cells[0], cells[-1])
                        self.check(board, book, cells[1], cells[0])
        self.assertEqual(len(seen), 10)

    def test_even_books(self):
        for board in GREATEST:
            for book in some_books(board, 8, seed=43):
                if marks_by_hand(board, book) is not None:
                    a, b = classes_by_hand(board, book)[0][:2]
                    for two in ((a, b), (b, a), (a, a), (a, -1), (36, 37)):
                        self.refused(NoPair, pair_turned, board, book, *two)

    def test_no_such_cells(self):
        for board, book in UNEVEN:
            classes = classes_by_hand(board, book)
            a = classes[0][0]
            for cell in FAR + [a, size(board)] + [cells[-1] for cells in classes[1:]]:
                self.refused(NoPair, pair_turned, board, book, a, cell)
                self.refused(NoPair, pair_turned, board, book, cell, a)
            self.refused(NoPair, pair_turned, board, book, -1, -2)
            self.refused(NoPair, pair_turned, board, book, size(board), size(board) + 1)


if __name__ == "__main__":
    unittest.main()
