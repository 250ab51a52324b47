import itertools
import random
import unittest

from stridelots import errors
from stridelots.errors import Barred, StrideError
from stridelots.papers.barred import barred
from stridelots.papers.looker import barred_shown
from stridelots.ways.led import led
from tests.samples import (
    BOARDS, FLOORS, GREATEST, all_led, all_rules, classes_by_hand, deeds_by_hand, done_by_hand,
    exchanged, is_plain, leads_by_hand, marks_by_hand, mixed, names_standing, paper_by_hand, size,
    some_books, some_deeds, some_standings, turned_over, unlike_standing,
)

SOME = BOARDS[::2] + GREATEST

# Boards and books with several classes, and few exchanges that deeds can do in one of them alone.
SEVERAL = [
    (("row", 6), (("swap", 2, 0),)),
    (("row", 36), (("swap", 12, 1),)),
    (("row", 18), (("swap", 4, 1), ("swap", 6, 1))),
    (("ring", 30), (("swap", 6, 0),)),
    (("ring", 10), (("swap", 2, 1),)),
    (("ring", 36), (("swap", 4, 1), ("swap", 6, 0))),
    (("floor", 3, 3), (("over", 2, 1, 0),)),
    (("floor", 3, 3), (("under", 1, 2, 1), ("under", 1, 2, 0))),
    (("floor", 5, 3), (("over", 3, 1, 1),)),
    (("floor", 3, 5), (("under", 1, 3, 1),)),
    (("floor", 12, 3), (("over", 2, 1, 1), ("over", 3, 1, 0))),
    (("floor", 3, 12), (("under", 1, 5, 0),)),
    (("floor", 6, 6), (("over", 2, 2, 0), ("under", 1, 1, 0), ("under", 1, 3, 0))),
]


class Leads(unittest.TestCase):
    def leads(self, board, book, one, other):
        with self.subTest(board=board, book=book, one=one, other=other):
            deeds = led(board, book, one, other)
            self.assertIs(type(deeds), tuple)
            self.assertTrue(is_plain(deeds))
            self.assertLessEqual(len(deeds), 100000)
            self.assertLessEqual(set(deeds), set(deeds_by_hand(board, book)))
            self.assertEqual(done_by_hand(board, book, one, deeds), other)
            self.assertEqual(led(board, book, one, other), deeds)
            self.assertIsNone(barred(board, book, one, other))

    def refused(self, board, book, one, other):
        with self.subTest(board=board, book=book, one=one, other=other):
            with self.assertRaises(Barred) as caught:
                led(board, book, one, other)
            self.assertIs(type(caught.exception), Barred)
            paper = caught.exception.paper
            self.assertTrue(is_plain(paper))
            self.assertIs(barred_shown(board, book, one, other, paper), True)
            self.assertTrue(paper_by_hand(board, book, one, other, paper))
            self.assertIsNotNone(barred(board, book, one, other))

    def check(self, board, book, one, other):
        """Either way, as sums of sign rows tell; tells whether deeds lead."""
        due = leads_by_hand(board, book, one, other)
        for pair in ((one, other), (other, one)):
            if due:
                self.leads(board, book, *pair)
            else:
                self.refused(board, book, *pair)
        return due


class Led(Leads):
    def test_alike(self):
        for board in BOARDS:
            for book in some_books(board, 2, seed=50):
                for one in some_standings(board):
                    self.assertEqual(led(board, book, one, one), ())

    def test_behind_deeds(self):
        for board in SOME:
            for at, book in enumerate(some_books(board, 4, seed=51)):
                one = some_standings(board)[at % 3]
                for many in (1, 2, 60):
                    self.leads(board, book, one, done_by_hand(board, book, one, some_deeds(board, book, many)))

    def test_behind_each_single_deed(self):
        for board, book in SEVERAL:
            one = unlike_standing(board)
            for deed in deeds_by_hand(board, book):
                self.leads(board, book, one, done_by_hand(board, book, one, (deed,)))

    def test_all_mixed_anew(self):
        seen = {True: 0, False: 0}
        for board in SOME:
            for at, book in enumerate(some_books(board, 4, seed=52)):
                for one in some_standings(board) + [names_standing(board, ("a",) * 5 + ("b",), at)]:
                    seen[self.check(board, book, one, mixed(board, book, one, at))] += 1
        self.assertGreater(min(seen.values()), 20)

    def test_each_rule_of_great_boards(self):
        for board in GREATEST:
            for rule in all_rules(board)[::3]:
                one = unlike_standing(board)
                self.check(board, (rule,), one, mixed(board, (rule,), one))

    def test_several_classes(self):
        seen = set()
        for board, book in SEVERAL:
            for seed in range(12):
                for one in some_standings(board):
                    seen.add(self.check(board, book, one, mixed(board, book, one, seed)))
        self.assertEqual(seen, {True, False})

    def test_one_exchange(self):
        for board, book in SEVERAL:
            one = unlike_standing(board)
            for cells in classes_by_hand(board, book):
                self.check(board, book, one, exchanged(board, book, one, cells[0], cells[-1]))
                # With two things of one kind in this class it can be done.
                alike = exchanged(board, book, one, cells[0], cells[1])
                alike = one[:cells[1]] + (alike[cells[1]],) + one[cells[1] + 1:]
                self.leads(board, book, alike, exchanged(board, book, alike, cells[0], cells[2]))
                for others in classes_by_hand(board, book):
                    self.check(board, book, alike, exchanged(board, book, alike, others[1], others[2]))

    def test_one_exchange_by_a_deed_of_odd_sign(self):
        for board, book in (
            (("row", 36), (("swap", 1, 0),)), (("row", 36), (("swap", 12, 0), ("swap", 4, 1), ("swap", 3, 0))),
            (("ring", 11), (("swap", 2, 0), ("swap", 1, 1))), (("floor", 12, 3), (("over", 1, 1, 1),)),
            (("floor", 6, 6), (("over", 2, 2, 0), ("under", 1, 1, 0), ("under", 1, 3, 0))),
        ):
            one = unlike_standing(board)
            for cells in classes_by_hand(board, book):
                self.leads(board, book, one, exchanged(board, book, one, cells[0], cells[-1]))

    def test_two_exchanges_in_two_classes(self):
        # Each of them alone is barred: only both together come.
        for board, book in ((("row", 6), (("swap", 2, 0),)), (("floor", 3, 3), (("over", 2, 1, 0),))):
            one = unlike_standing(board)
            for first, second in itertools.combinations(classes_by_hand(board, book), 2):
                other = exchanged(board, book, one, first[0], first[2])
                self.refused(board, book, one, other)
                self.leads(board, book, one, exchanged(board, book, other, second[1], second[0]))

    def test_faces(self):
        for board in GREATEST:
            for book in some_books(board, 4, seed=53):
                one = unlike_standing(board)
                for cells in classes_by_hand(board, book)[:3]:
                    self.refused(board, book, one, turned_over(one, cells[1]))
                    two = turned_over(one, cells[0], cells[-1])
                    all_of_them = turned_over(one, *cells[len(cells) % 2:])
                    for other in (two, all_of_them):
                        if marks_by_hand(board, book) is None:
                            self.leads(board, book, one, other)
                        else:
                            self.refused(board, book, one, other)

    def test_lack(self):
        for board in GREATEST:
            for book in some_books(board, 2, seed=54):
                for one in some_standings(board):
                    for cell in (0, 20, 35):
                        self.refused(board, book, one, one[:cell] + (("zz", 0),) + one[cell + 1:])

    def test_against_walks(self):
        small = [("row", n) for n in range(3, 8)] + [("ring", n) for n in range(5, 8)]
        for board in small + [floor for floor in FLOORS if 3 <= size(floor) <= 7]:
            for book in some_books(board, 4, seed=55):
                for one in some_standings(board) + [names_standing(board, ("a", "a", "b"))]:
                    found = all_led(board, book, one, 1500)
                    if len(found) <= 1500:
                        chance = random.Random(f"{board} {book}")
                        for at in range(10):
                            self.leads(board, book, one, chance.choice(list(found)))
                            other = mixed(board, book, one, at)
                            if other not in found:
                                self.refused(board, book, one, other)

    def test_refusal(self):
        one = unlike_standing(("row", 3))
        with self.assertRaises(StrideError) as caught:
            led(("row", 3), (("swap", 1, 0),), one, turned_over(one, 0))
        self.assertIsInstance(caught.exception, ValueError)
        for name in (
            "NoStanding", "NoBook", "NoDeed", "NoTurning", "NotEven", "NoRound", "NoPair", "TooMany",
            "Few", "NoPlan", "NoName", "Full",
        ):
            self.assertNotIsInstance(caught.exception, getattr(errors, name))

    def test_what_is_handed_in_stays(self):
        board, book = SEVERAL[-1]
        one = unlike_standing(board)
        other = mixed(board, book, one)
        shown = repr((board, book, one, other))
        led(board, book, one, other)
        self.assertEqual(repr((board, book, one, other)), shown)


if __name__ == "__main__":
    unittest.main()
