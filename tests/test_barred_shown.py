import itertools
import unittest

from stridelots.papers.barred import barred
from stridelots.papers.looker import barred_shown
from tests.samples import (
    GREATEST, classes_by_hand, done_by_hand, exchanged, kinds_by_hand, marks_by_hand, mixed,
    names_standing, paper_by_hand, some_books, some_deeds, some_standings, turned_over, unlike_standing,
)

ROW = ("row", 6)
TWO = (("swap", 2, 0),)
BENT = (("swap", 2, 0), ("swap", 2, 1))
ONE = tuple((name, 0) for name in "abcdef")
COLUMNS = (("floor", 5, 3), (("over", 3, 1, 0),))
NUMBERS = [-(10 ** 20), -13, -2, -1, 0, 1, 2, 3, 11, 12, 36, 10 ** 20]
# Parts of each sort that a paper may be made of.
PARTS = NUMBERS + [
    "", "a", "b", "zz", "lack", "faces", "turns", "0", ("a", 0), ("a", 1), ("b", 0), ("zz", 1), ("", 0), ("a", 2),
    ("a", -1), (), (0,), (1,), (0, 1), (1, 0), (0, 0), (0, 1, 2), (0, 2), (-1,), (-1, 0), (0, 12), (12,), (0, 1, 1),
    (0, 10 ** 20), (2, 1, 0), tuple(range(12)),
]
WORDS = ["lack", "faces", "turns", "", "a", "Lack", "lacks", "face", "turn", "turns ", "lack\n", "0"]


class Shown(unittest.TestCase):
    def expect(self, board, book, one, other, paper, due):
        with self.subTest(board=board, book=book, one=one, other=other, paper=paper):
            for pair in ((one, other), (other, one)):
                self.assertIs(barred_shown(board, book, *pair, paper), due)

    def by_hand(self, board, book, one, other, paper):
        due = paper_by_hand(board, book, one, other, paper)
        self.expect(board, book, one, other, paper, due)
        return due

    def cases(self):
        """Boards, books and two standings of all sorts."""
        ring = ("ring", 11)
        even = (("swap", 1, 1), ("swap", 2, 0))
        one = unlike_standing(ring)
        return [
            (ROW, TWO, ONE, ONE),
            (ROW, TWO, ONE, exchanged(ROW, TWO, ONE, 0, 2)),
            (ROW, TWO, ONE, exchanged(ROW, TWO, ONE, 0, 1)),
            (ROW, TWO, ONE, turned_over(ONE, 3)),
            (ROW, BENT, ONE, turned_over(ONE, 3)),
            (ROW, BENT, ONE, turned_over(ONE, 0, 3)),
            (ROW, BENT, ONE, exchanged(ROW, BENT, ONE, 1, 5)),
            (ROW, TWO, ONE[:5] + (("a", 0),), ONE),
            (("row", 7), even, ONE + (("b", 1),), (("b", 1),) + ONE),
            (ring, (("swap", 2, 0),), one, exchanged(ring, (("swap", 2, 0),), one, 0, 2)),
            (ring, (("swap", 2, 1),), one, exchanged(ring, (("swap", 2, 1),), one, 0, 2)),
            (*COLUMNS, unlike_standing(COLUMNS[0]), exchanged(*COLUMNS, unlike_standing(COLUMNS[0]), 0, 2)),
        ]

    def test_told_ones(self):
        words = set()
        for board in GREATEST:
            for at, book in enumerate(some_books(board, 4, seed=30)):
                for one in some_standings(board):
                    last = classes_by_hand(board, book)[-1]
                    for other in (
                        mixed(board, book, one, at), exchanged(board, book, one, last[0], last[2]),
                        turned_over(one, last[1]), (("zz", 0),) + one[1:],
                    ):
                        paper = barred(board, book, one, other)
                        if paper is not None:
                            words.add(paper[0])
                            self.expect(board, book, one, other, paper, True)
        self.assertEqual(words, {"lack", "faces", "turns"})

    def test_lack(self):
        other = (("b", 0), ("a", 0)) + ONE[2:]
        for number, name in ((0, "a"), (0, "b"), (1, "a"), (1, "b")):
            self.expect(ROW, TWO, ONE, other, ("lack", number, (name, 0)), True)
            self.expect(ROW, TWO, ONE, other, ("lack", number, (name, 1)), False)
            self.expect(ROW, TWO, ONE, other, ("lack", number, name), False)
            self.expect(ROW, BENT, ONE, other, ("lack", number, name), True)
            self.expect(ROW, BENT, ONE, other, ("lack", number, (name, 0)), False)
        for number, name in ((0, "c"), (0, "d"), (1, "d"), (0, "zz"), (1, "")):
            self.expect(ROW, TWO, ONE, other, ("lack", number, (name, 0)), False)
            self.expect(ROW, BENT, ONE, other, ("lack", number, name), False)
        for number in (-2, -1, 2, 3, 36, 10 ** 20, -(10 ** 20)):
            self.expect(ROW, TWO, ONE, other, ("lack", number, ("a", 0)), False)
            self.expect(ROW, BENT, ONE, other, ("lack", number, "a"), False)

    def test_lack_of_each_class_and_kind(self):
        seen = set()
        for board in GREATEST:
            for book in some_books(board, 4, seed=31):
                even = marks_by_hand(board, book) is not None
                one, other = names_standing(board, ("a", "a", "b")), names_standing(board, ("b", "c", "b", "a"), 1)
                names = ["a", "b", "c", "zz"]
                for number in range(-1, len(classes_by_hand(board, book)) + 1):
                    for kind in names + [(name, mark) for name in names for mark in (0, 1)]:
                        due = self.by_hand(board, book, one, other, ("lack", number, kind))
                        seen.add((even, type(kind), due))
        self.assertEqual(len(seen), 6)

    def test_faces(self):
        for cell in range(6):
            for number in range(-3, 5):
                for book in (TWO, BENT):
                    due = book == BENT and number == cell % 2
                    self.expect(ROW, book, ONE, turned_over(ONE, cell), ("faces", number), due)
                    # With two of one class nothing is odd.
                    two = turned_over(ONE, cell, (cell + 2) % 6)
                    self.expect(ROW, book, ONE, two, ("faces", number), False)
                    both = turned_over(ONE, cell, (cell + 3) % 6)
                    self.expect(ROW, book, ONE, both, ("faces", number), book == BENT and number in (0, 1))

    def test_faces_where_things_go_from_class_to_class(self):
        one = turned_over(ONE, 0)
        other = (one[1], one[0]) + one[2:]
        for number in (0, 1):
            self.expect(ROW, BENT, one, other, ("faces", number), True)
        self.expect(ROW, BENT, ONE, (ONE[1], ONE[0]) + ONE[2:], ("faces", 0), False)

    def test_turns(self):
        for a, b in ((0, 2), (2, 4), (0, 4), (1, 3), (5, 1)):
            for book in (TWO, BENT):
                other = exchanged(ROW, book, ONE, a, b)
                for numbers, due in (
                    ((0, 1), True), ((0,), False), ((1,), False), ((), False), ((1, 0), False), ((0, 0), False),
                    ((0, 1, 1), False), ((0, 0, 1), False), ((0, 1, 2), False), ((-1, 0, 1), False), ((-2, -1), False),
                    ((2,), False), ((0, 10 ** 20), False),
                ):
                    self.expect(ROW, book, ONE, other, ("turns", numbers), due)
        both = exchanged(ROW, TWO, exchanged(ROW, TWO, ONE, 0, 2), 1, 5)
        self.expect(ROW, TWO, ONE, both, ("turns", (0, 1)), False)
        # A deed of one pair in a single class.
        other = exchanged(ROW, TWO, ONE, 0, 2)
        self.expect(ROW, TWO + (("swap", 1, 0),), ONE, other, ("turns", (0,)), False)

    def test_turns_with_kinds_alike_or_others(self):
        alike = (("a", 0), ("b", 0), ("a", 0)) + ONE[3:]
        self.expect(ROW, TWO, alike, exchanged(ROW, TWO, alike, 0, 4), ("turns", (0, 1)), False)
        self.expect(ROW, TWO, alike, exchanged(ROW, TWO, alike, 1, 3), ("turns", (0, 1)), False)
        other = exchanged(ROW, TWO, ONE, 0, 2)
        for cell in range(6):
            self.expect(ROW, TWO, ONE, other[:cell] + (("zz", 0),) + other[cell + 1:], ("turns", (0, 1)), False)
        # Faces are no part of kinds where the book is not even.
        self.expect(ROW, TWO, ONE, turned_over(other, 3), ("turns", (0, 1)), False)
        self.expect(ROW, BENT, ONE, turned_over(other, 3), ("turns", (0, 1)), True)

    def test_turns_though_other_classes_lack(self):
        board, book = ("floor", 5, 3), (("over", 3, 1, 0),)
        one = unlike_standing(board)
        other = exchanged(board, book, one, 0, 1)
        other = other[:3] + (("zz", 0),) + other[4:]
        # (0, 2, 3) is a lot, and the class with another name, 1, is none of it.
        self.expect(board, book, one, other, ("turns", (0, 2, 3)), True)
        self.expect(board, book, one, other, ("turns", (1, 2, 4)), False)
        self.expect(board, book, one, other, ("turns", (0, 1, 3, 4)), False)

    def test_turns_against_hand(self):
        due = 0
        for board in GREATEST:
            for book in some_books(board, 6, seed=32):
                many = len(classes_by_hand(board, book))
                one = unlike_standing(board)
                for seed in (1, 2):
                    other = mixed(board, book, one, seed)
                    told = [numbers for size in (1, 2, 3) for numbers in itertools.combinations(range(many), size)]
                    for numbers in told[:12] + told[-12:] + [tuple(range(many)), (many - 1, many), (0, 0)]:
                        due += self.by_hand(board, book, one, other, ("turns", numbers))
        self.assertGreater(due, 50)

    def test_behind_deeds_none(self):
        for board in GREATEST:
            for book in some_books(board, 3, seed=33):
                many = len(classes_by_hand(board, book))
                for one in some_standings(board)[:2]:
                    other = done_by_hand(board, book, one, some_deeds(board, book, 12))
                    kinds = dict.fromkeys(kind for row in kinds_by_hand(board, book, one) for kind in row)
                    papers = [("lack", number, kind) for number in range(many) for kind in list(kinds)[:9]]
                    papers += [("faces", number) for number in range(many)]
                    papers += [("turns", (number,)) for number in range(many)]
                    papers += [("turns", numbers) for numbers in itertools.combinations(range(many), 2)]
                    papers.append(("turns", tuple(range(many))))
                    for paper in papers:
                        self.assertIs(barred_shown(board, book, one, other, paper), False, paper)

    def test_parts_of_each_sort_in_each_place(self):
        for case in self.cases():
            for word in WORDS:
                for part in PARTS:
                    paper = (word, part)
                    due = word in ("faces", "turns") and self.is_form(paper) and paper_by_hand(*case, paper)
                    self.expect(*case, paper, due)
            for part, kind in itertools.product(PARTS, PARTS):
                paper = ("lack", part, kind)
                self.assertIs(barred_shown(*case, paper), self.is_form(paper) and paper_by_hand(*case, paper), paper)
                for word in ("faces", "turns", "other"):
                    self.assertIs(barred_shown(*case, (word, part, kind)), False)

    def is_form(self, paper):
        if paper[0] == "turns":
            return type(paper[1]) is tuple and all(type(part) is int for part in paper[1])
        return type(paper[1]) is int

    def test_parts_too_few_and_too_many(self):
        for case in self.cases():
            for word in WORDS:
                self.expect(*case, (word,), False)
                for part in PARTS:
                    self.expect(*case, (word, part, 0, 0), False)
                    self.expect(*case, (word, 0, part, "a"), False)
            self.expect(*case, (), False)
            for number in NUMBERS:
                self.expect(*case, ("lack", number), False)
                self.expect(*case, ("faces", number, number), False)
                self.expect(*case, ("turns", (0, 1), number), False)
                self.expect(*case, ("turns", 0, 1), False)

    def test_a_long_tuple_of_numbers(self):
        other = exchanged(ROW, TWO, ONE, 0, 2)
        for numbers in (tuple(range(20000)), (0, 1) * 10000, (0,) * 20000):
            self.expect(ROW, TWO, ONE, other, ("turns", numbers), False)

    def test_what_is_handed_in_stays(self):
        other = exchanged(ROW, TWO, ONE, 0, 2)
        paper = ("turns", (0, 1))
        shown = repr((ROW, TWO, ONE, other, paper))
        barred_shown(ROW, TWO, ONE, other, paper)
        self.assertEqual(repr((ROW, TWO, ONE, other, paper)), shown)


if __name__ == "__main__":
    unittest.main()
