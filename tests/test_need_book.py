import unittest

from stridelots import errors
from stridelots.books.rules import need_book
from stridelots.errors import NoBook
from tests.samples import BOARDS, all_rules, some_books

ROW = ("row", 12)
RING = ("ring", 20)
FLOOR = ("floor", 6, 6)
GOOD = {
    ROW: (("swap", 1, 0), ("swap", 1, 1), ("swap", 4, 0), ("swap", 3, 1)),
    RING: (("swap", 1, 0), ("swap", 1, 1), ("swap", 4, 0), ("swap", 3, 1)),
    FLOOR: (("over", 1, 1, 0), ("under", 1, 1, 0), ("over", 3, 2, 1), ("under", 2, 3, 1)),
}

# Wrong on each board, whatever its size.
WRONG = [
    (), ("swap",), ("over",), ("under",), (1,), ("",), ("swap", 1), ("swap", 1, 0, 0),
    ("over", 1, 0), ("over", 1), ("over", 1, 1, 0, 0), ("under", 1, 0), ("under", 1, 1, 0, 0),
    ("swap", 0, 0), ("swap", -1, 0), ("swap", 10 ** 30, 0), ("swap", -(10 ** 30), 1),
    ("over", 0, 1, 0), ("over", 1, 0, 0), ("over", -1, 1, 0), ("over", 1, -1, 0),
    ("under", 0, 1, 0), ("under", 1, 0, 0), ("under", -1, 1, 0), ("under", 1, -1, 0),
    ("over", 10 ** 30, 1, 0), ("over", 1, 10 ** 30, 0),
    ("under", 10 ** 30, 1, 0), ("under", 1, 10 ** 30, 0),
    ("swap", 1, 2), ("swap", 1, -1), ("swap", 1, 10 ** 30),
    ("over", 1, 1, 2), ("over", 1, 1, -1), ("under", 1, 1, 2), ("under", 1, 1, -1),
    ("swap", "1", 0), ("swap", 1, "0"), ("swap", "", 0), ("swap", "swap", 0),
    ("over", "1", 1, 0), ("over", 1, "1", 0), ("over", 1, 1, "1"),
    ("under", "1", 1, 0), ("under", 1, "1", 0), ("under", 1, 1, ""),
    (0, 1, 0), (1, 1, 1, 0), (0, 1, 1), ("swap", "a", "b"), ("over", "a", "b", "c"),
    ("Swap", 1, 0), ("swaps", 1, 0), ("swa", 1, 0), ("", 1, 0), ("row", 1, 0),
    ("Over", 1, 1, 0), ("ove", 1, 1, 0), ("unde", 1, 1, 0), ("", 1, 1, 0), ("floor", 1, 1, 0),
    (1, "swap", 0), (0, 1, "swap"), ("swap", "under", 1, 0), ("over", "under", 1, 0),
]


class NeedBook(unittest.TestCase):
    def good(self, board, rules):
        with self.subTest(board=board, rules=rules):
            self.assertIsNone(need_book(board, rules))
            self.assertIsNone(need_book(board, rules))

    def refused(self, board, rules, at):
        with self.subTest(board=board, rules=rules):
            for _ in range(2):
                with self.assertRaises(NoBook) as caught:
                    need_book(board, rules)
                self.assertIs(type(caught.exception), NoBook)
                self.assertEqual(caught.exception.at, at)
                self.assertIs(type(caught.exception.at), int)

    def test_one_to_four_rules(self):
        for board, rules in GOOD.items():
            for many in range(1, 5):
                self.good(board, rules[:many])

    def test_each_rule_that_fits(self):
        for board in BOARDS:
            for rule in all_rules(board):
                self.good(board, (rule,))
            for book in some_books(board, 8):
                self.good(board, book)

    def test_no_rules(self):
        for board in [*GOOD, ("floor", 1, 1), ("row", 3)]:
            self.refused(board, (), 0)

    def test_more_than_four(self):
        fifth = {ROW: ("swap", 2, 0), RING: ("swap", 2, 0), FLOOR: ("over", 1, 2, 0)}
        for board, rules in GOOD.items():
            self.good(board, (fifth[board],))
            self.refused(board, (*rules, fifth[board]), 4)
            self.refused(board, (*rules, fifth[board], fifth[board]), 4)
            self.refused(board, (*rules, rules[0]), 4)
            self.refused(board, rules * 3, 4)
            for wrong in WRONG:
                self.refused(board, (*rules, wrong), 4)
                self.refused(board, (*rules, wrong, fifth[board], wrong), 4)

    def test_wrong_rules(self):
        for board, rules in GOOD.items():
            for wrong in WRONG:
                self.refused(board, (wrong,), 0)
                for at in range(4):
                    self.refused(board, (*rules[:at], wrong, *rules[at + 1:]), at)
                    self.refused(board, (*rules[:at], wrong), at)
                    self.refused(board, (*rules[:at], wrong, *rules[at:]), at)

    def test_truths_are_no_whole_numbers(self):
        for rule in (("swap", True, 0), ("swap", 1, True), ("swap", 1, False)):
            self.refused(ROW, (rule,), 0)
        for rule in (("over", True, 1, 0), ("under", 1, True, 0), ("over", 1, 1, False)):
            self.refused(FLOOR, (rule,), 0)

    def test_first_of_several_wrong_ones(self):
        for board, rules in GOOD.items():
            self.refused(board, ((), ()), 0)
            self.refused(board, (rules[0], (), ("swap", 0, 0)), 1)
            self.refused(board, (rules[0], rules[0], ()), 1)
            self.refused(board, (rules[0], (), rules[0], *rules), 1)

    def test_rule_of_another_sort_of_board(self):
        for board in (ROW, RING):
            for rule in GOOD[FLOOR]:
                self.refused(board, (rule,), 0)
                self.refused(board, (GOOD[board][0], rule), 1)
        for rule in GOOD[ROW]:
            self.refused(FLOOR, (rule,), 0)
            self.refused(FLOOR, (GOOD[FLOOR][0], rule), 1)
        self.refused(("floor", 1, 12), (("swap", 1, 0),), 0)
        self.refused(("row", 12), (("over", 1, 1, 0),), 0)
        self.refused(("ring", 12), (("over", 1, 1, 0),), 0)

    def test_rule_that_stands_there_already(self):
        for board, rules in GOOD.items():
            for at in range(1, 4):
                for ahead in range(at):
                    self.refused(board, (*rules[:at], rules[ahead]), at)
                    self.refused(board, (*rules[:at], rules[ahead], *rules[at:]), at)

    def test_rules_that_are_nearly_alike(self):
        self.good(ROW, (("swap", 1, 0), ("swap", 1, 1)))
        self.good(RING, (("swap", 1, 0), ("swap", 1, 1), ("swap", 2, 1), ("swap", 2, 0)))
        self.good(FLOOR, (("over", 1, 1, 0), ("over", 1, 1, 1), ("under", 1, 1, 0), ("under", 1, 1, 1)))
        self.good(FLOOR, (("over", 1, 2, 0), ("over", 2, 1, 0), ("under", 1, 2, 0), ("under", 2, 1, 0)))

    def test_greatest_in_rows(self):
        for n in range(3, 37):
            for bent in (0, 1):
                self.good(("row", n), (("swap", n // 3, bent),))
                self.refused(("row", n), (("swap", n // 3 + 1, bent),), 0)

    def test_greatest_in_rings(self):
        for n in range(5, 37):
            for bent in (0, 1):
                self.good(("ring", n), (("swap", n // 5, bent),))
                self.refused(("ring", n), (("swap", n // 5 + 1, bent),), 0)

    def test_greatest_on_floors(self):
        for board in BOARDS:
            if board[0] == "floor":
                self.greatest_on_floor(board)

    def greatest_on_floor(self, board):
        _, high, wide = board
        w, h = wide // 3, (high + 1) // 2
        self.refused(board, (("over", 1, w + 1, 0),), 0)
        self.refused(board, (("over", h, w + 1, 1),), 0)
        self.refused(board, (("over", h + 1, 1, 0),), 0)
        if w > 0:
            self.good(board, (("over", h, w, 0), ("over", h, w, 1)))
            self.refused(board, (("over", h, w, 0), ("over", h + 1, w, 0)), 1)
        h, w = high // 3, (wide + 1) // 2
        self.refused(board, (("under", h + 1, 1, 0),), 0)
        self.refused(board, (("under", h + 1, w, 1),), 0)
        self.refused(board, (("under", 1, w + 1, 0),), 0)
        if h > 0:
            self.good(board, (("under", h, w, 0), ("under", h, w, 1)))
            self.refused(board, (("under", h, w, 0), ("under", h, w + 1, 0)), 1)

    def test_floors_without_rules(self):
        for board in (("floor", 1, 1), ("floor", 2, 2), ("floor", 1, 2), ("floor", 2, 1)):
            self.assertEqual(all_rules(board), [])
            self.refused(board, (("over", 1, 1, 0),), 0)
            self.refused(board, (("under", 1, 1, 0),), 0)

    def test_refusal(self):
        with self.assertRaises(errors.StrideError) as caught:
            need_book(ROW, ())
        self.assertIsInstance(caught.exception, ValueError)
        for name in (
            "NoStanding", "NoDeed", "NoTurning", "NotEven", "NoRound", "NoPair",
            "Barred", "TooMany", "Few", "NoPlan", "NoName", "Full",
        ):
            self.assertNotIsInstance(caught.exception, getattr(errors, name))


if __name__ == "__main__":
    unittest.main()
