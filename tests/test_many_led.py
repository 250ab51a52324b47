import collections
import math
import unittest

from stridelots.counts.many import many_led
from tests.samples import (
    BOARDS, FLOORS, GREATEST, all_led, all_rules, classes_by_hand, done_by_hand, kinds_by_hand,
    marks_by_hand, mixed, names_standing, size, some_books, some_deeds, some_standings, sums_by_hand,
    unlike_standing,
)


def many_by_hand(board, book, standing):
    """The product over the classes, with as many signs as the sums of sign rows show in those that are fixed."""
    kinds = kinds_by_hand(board, book, standing)
    many = 1
    for row in kinds:
        many *= math.factorial(len(row))
        for often in collections.Counter(row).values():
            many //= math.factorial(often)
        if marks_by_hand(board, book) is None:
            many *= 2 ** (len(row) - 1)
    fixed = [at for at, row in enumerate(kinds) if len(set(row)) == len(row)]
    shown = {tuple(row[at] for at in fixed) for row in sums_by_hand(board, book)}
    return many * len(shown) // 2 ** len(fixed)


class ManyLed(unittest.TestCase):
    def expect(self, board, book, standing, many):
        with self.subTest(board=board, book=book, standing=standing):
            told = many_led(board, book, standing)
            self.assertEqual(told, many)
            self.assertIs(type(told), int)
            self.assertEqual(many_led(board, book, standing), told)

    def test_one_where_nothing_unlike_comes(self):
        for board in BOARDS:
            for book in some_books(board, 3, seed=60):
                straight = tuple(rule for rule in book if rule[-1] == 0)
                if straight:
                    for face in (0, 1):
                        self.expect(board, straight, (("a", face),) * size(board), 1)
                marks = marks_by_hand(board, book)
                if marks is not None:
                    self.expect(board, book, tuple(("a", mark) for mark in marks), 1)

    def test_names_alike_and_unlike(self):
        row, straight, both = ("row", 3), (("swap", 1, 0),), (("swap", 1, 0), ("swap", 1, 1))
        self.expect(row, straight, (("a", 0), ("b", 0), ("c", 0)), 6)
        self.expect(row, straight, (("a", 0), ("b", 0), ("a", 0)), 3)
        self.expect(row, straight, (("a", 0), ("b", 0), ("a", 1)), 6)
        self.expect(row, both, (("a", 0), ("b", 0), ("c", 0)), 24)
        self.expect(row, both, (("a", 0), ("b", 0), ("a", 1)), 12)
        self.expect(row, both, (("a", 0), ("a", 0), ("a", 1)), 4)
        bent = (("swap", 1, 1),)
        self.expect(row, bent, (("a", 0), ("a", 0), ("a", 0)), 3)
        self.expect(row, bent, (("a", 0), ("a", 1), ("a", 0)), 1)
        six = tuple((name, 0) for name in "abcdef")
        self.expect(("row", 6), (("swap", 2, 0),), six, 18)
        self.expect(("row", 6), (("swap", 2, 0), ("swap", 1, 0)), six, 720)
        self.expect(("ring", 10), (("swap", 2, 0),), unlike_standing(("ring", 10)), 120 * 120 // 2)

    def test_great_numbers(self):
        row = ("row", 36)
        self.expect(row, (("swap", 1, 0),), unlike_standing(row), math.factorial(36))
        both = (("swap", 1, 0), ("swap", 1, 1))
        self.expect(row, both, unlike_standing(row), math.factorial(36) * 2 ** 35)
        self.expect(row, (("swap", 12, 0),), unlike_standing(row), 6 ** 12 // 2 ** 11)
        self.expect(row, both, (("a", 0),) * 36, 2 ** 35)
        self.expect(("ring", 35), (("swap", 2, 0),), unlike_standing(("ring", 35)), math.factorial(35) // 2)
        self.expect(row, (("swap", 1, 0),), (("a", 0),) * 35 + (("b", 0),), 36)

    def test_against_walks(self):
        small = [("row", n) for n in range(3, 8)] + [("ring", n) for n in range(5, 8)]
        seen = set()
        for board in small + [floor for floor in FLOORS if 3 <= size(floor) <= 7]:
            books = [(rule,) for rule in all_rules(board)] + some_books(board, 6, seed=61)
            for book in dict.fromkeys(books):
                for one in some_standings(board) + [names_standing(board, ("a", "a", "b"))]:
                    found = all_led(board, book, one, 6000)
                    if len(found) <= 6000:
                        seen.add((board[0], marks_by_hand(board, book) is None, len(classes_by_hand(board, book)) > 1))
                        self.expect(board, book, one, len(found))
        self.assertGreaterEqual(len(seen), 9)

    def test_seven_unlike_things(self):
        for board, book in (
            (("row", 7), (("swap", 2, 0), ("swap", 2, 1))), (("ring", 7), (("swap", 1, 0),)),
            (("floor", 7, 1), (("under", 1, 1, 1), ("under", 2, 1, 0))),
        ):
            one = unlike_standing(board)
            self.expect(board, book, one, len(all_led(board, book, one)))

    def test_against_products(self):
        for board in BOARDS:
            for at, book in enumerate(some_books(board, 4, seed=62)):
                for one in some_standings(board) + [names_standing(board, tuple("abcdefghijkl"), at)]:
                    self.expect(board, book, one, many_by_hand(board, book, one))
        for board in GREATEST:
            for rule in all_rules(board):
                self.expect(board, (rule,), unlike_standing(board), many_by_hand(board, (rule,), unlike_standing(board)))

    def test_the_same_from_any_that_comes(self):
        for board in GREATEST:
            for at, book in enumerate(some_books(board, 4, seed=63)):
                for one in some_standings(board):
                    many = many_led(board, book, one)
                    for seed in range(3):
                        deeds = some_deeds(board, book, 20, seed)
                        self.expect(board, book, done_by_hand(board, book, one, deeds), many)
                        self.expect(board, book, mixed(board, book, one, seed), many)

    def test_what_is_handed_in_stays(self):
        board, book, one = ("row", 6), (("swap", 2, 0),), unlike_standing(("row", 6))
        shown = repr((board, book, one))
        many_led(board, book, one)
        self.assertEqual(repr((board, book, one)), shown)


if __name__ == "__main__":
    unittest.main()
