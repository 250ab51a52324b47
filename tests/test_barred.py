import random
import unittest

from stridelots.papers.barred import barred
from tests.samples import (
    BOARDS, FLOORS, GREATEST, all_led, all_rules, classes_by_hand, deeds_by_hand, done_by_hand,
    exchanged, is_plain, kinds_by_hand, leads_by_hand, marks_by_hand, mixed, names_standing, paper_by_hand,
    size,
    some_books, some_deeds, some_standings, turned_over, unlike_standing,
)

SOME = BOARDS[::3] + GREATEST

# Boards and books in which no deed exchanges just two things of some class.
TURNS = [
    (("row", 6), (("swap", 2, 0),)),
    (("row", 6), (("swap", 2, 1),)),
    (("row", 7), (("swap", 2, 1),)),
    (("row", 36), (("swap", 12, 0),)),
    (("ring", 10), (("swap", 2, 0),)),
    (("ring", 10), (("swap", 2, 1),)),
    (("ring", 11), (("swap", 2, 0),)),
    (("ring", 11), (("swap", 2, 1),)),
    (("ring", 22), (("swap", 4, 1),)),
    (("floor", 3, 3), (("over", 2, 1, 0),)),
    (("floor", 3, 3), (("under", 1, 2, 1),)),
    (("floor", 5, 3), (("over", 3, 1, 0),)),
    (("floor", 6, 6), (("over", 2, 2, 0), ("under", 2, 2, 0))),
]


class Told(unittest.TestCase):
    def told(self, board, book, one, other):
        told = barred(board, book, one, other)
        self.assertEqual(barred(board, book, one, other), told)
        if told is not None:
            self.assertIs(type(told), tuple)
            self.assertTrue(is_plain(told))
            self.assertTrue(paper_by_hand(board, book, one, other, told), told)
        return told

    def none(self, board, book, one, other):
        with self.subTest(board=board, book=book, one=one, other=other):
            self.assertIsNone(self.told(board, book, one, other))
            self.assertIsNone(self.told(board, book, other, one))

    def paper(self, board, book, one, other, word):
        with self.subTest(board=board, book=book, one=one, other=other):
            for told in (self.told(board, book, one, other), self.told(board, book, other, one)):
                self.assertIsNotNone(told)
                self.assertEqual(told[0], word)
        return told


class Barred(Told):
    def test_the_same_standing(self):
        for board in SOME:
            for book in some_books(board, 2, seed=20):
                for one in some_standings(board):
                    self.none(board, book, one, one)

    def test_behind_deeds(self):
        for board in SOME:
            for at, book in enumerate(some_books(board, 4, seed=21)):
                for one in some_standings(board):
                    deeds = some_deeds(board, book, 1 + 9 * at)
                    self.none(board, book, one, done_by_hand(board, book, one, deeds))

    def test_another_name(self):
        for board in GREATEST:
            for book in some_books(board, 3, seed=22):
                one = unlike_standing(board)
                for cell in (0, 17, 35):
                    number = [cell in cells for cells in classes_by_hand(board, book)].index(True)
                    other = one[:cell] + (("zz", one[cell][1]),) + one[cell + 1:]
                    told = self.paper(board, book, one, other, "lack")
                    self.assertEqual(told[1], number)

    def test_a_name_once_more(self):
        row, book = ("row", 3), (("swap", 1, 0),)
        one, other = ((name, 0) for name in ("a", "a", "b")), ((name, 0) for name in ("a", "b", "b"))
        told = self.paper(row, book, tuple(one), tuple(other), "lack")
        self.assertIn(told, [("lack", 0, ("a", 0)), ("lack", 0, ("b", 0))])

    def test_things_of_two_classes_exchanged(self):
        for board, book in TURNS:
            classes = classes_by_hand(board, book)
            if len(classes) > 1:
                one = unlike_standing(board)
                a, b = classes[0][0], classes[-1][-1]
                # The names alone would be enough: both faces are tried.
                for other in (exchanged(board, book, one, a, b), turned_over(exchanged(board, book, one, a, b), a, b)):
                    self.paper(board, book, one, other, "lack")

    def test_one_thing_turned_over(self):
        seen = set()
        for board in BOARDS:
            for book in some_books(board, 4, seed=23):
                even = marks_by_hand(board, book) is not None
                seen.add((board[0], even))
                for one in some_standings(board):
                    cell = classes_by_hand(board, book)[-1][1]
                    told = self.paper(board, book, one, turned_over(one, cell), "lack" if even else "faces")
                    self.assertEqual(told[1], len(classes_by_hand(board, book)) - 1)
        self.assertEqual(len(seen), 6)

    def test_two_things_turned_over(self):
        for board in SOME:
            for book in some_books(board, 4, seed=24):
                if marks_by_hand(board, book) is None:
                    one, classes = unlike_standing(board), classes_by_hand(board, book)
                    self.none(board, book, one, turned_over(one, classes[-1][0], classes[-1][2]))
                    if len(classes) > 1:
                        self.paper(board, book, one, turned_over(one, classes[0][0], classes[-1][2]), "faces")

    def test_two_things_of_one_class_exchanged(self):
        for board, book in TURNS:
            one = unlike_standing(board)
            for cells in classes_by_hand(board, book):
                for a, b in ((cells[0], cells[-1]), (cells[1], cells[0])):
                    self.paper(board, book, one, exchanged(board, book, one, a, b), "turns")

    def test_two_exchanged_where_it_can_be(self):
        book = (("swap", 2, 0),)
        one = unlike_standing(("row", 6))
        two = exchanged(("row", 6), book, exchanged(("row", 6), book, one, 0, 2), 1, 3)
        self.none(("row", 6), book, one, two)
        # A deed of odd sign for each class.
        self.none(("row", 6), (("swap", 2, 0), ("swap", 1, 0)), one, exchanged(("row", 6), book, one, 0, 2))
        one = unlike_standing(("ring", 11))
        for rules in ((("swap", 2, 0), ("swap", 1, 0)), (("swap", 1, 0),)):
            self.none(("ring", 11), rules, one, exchanged(("ring", 11), rules, one, 0, 2))

    def test_two_exchanged_where_a_class_takes_it(self):
        for board, book in TURNS:
            one = unlike_standing(board)
            classes = classes_by_hand(board, book)
            for at, cells in enumerate(classes):
                # Two things of one kind in this class: it can take an exchange, and only it.
                alike = exchanged(board, book, one, cells[0], cells[1])
                alike = one[:cells[1]] + (alike[cells[1]],) + one[cells[1] + 1:]
                self.none(board, book, alike, exchanged(board, book, alike, cells[0], cells[2]))
                for number, others in enumerate(classes):
                    if number != at:
                        other = exchanged(board, book, alike, others[0], others[1])
                        due = leads_by_hand(board, book, alike, other)
                        self.assertEqual(self.told(board, book, alike, other) is None, due)

    def test_several_classes_together(self):
        # No class is barred by itself; the sums over two, or three, are.
        board, book = ("floor", 3, 3), (("over", 2, 1, 0),)
        one = unlike_standing(board)
        for at in range(3):
            told = self.paper(board, book, one, exchanged(board, book, one, 3 * at, 3 * at + 2), "turns")
            self.assertEqual(told, ("turns", (0, 1, 2)))
        two = exchanged(board, book, exchanged(board, book, one, 0, 1), 6, 8)
        self.none(board, book, one, two)
        self.assertEqual(self.told(("row", 6), (("swap", 2, 1),), *[
            unlike_standing(("row", 6)),
            exchanged(("row", 6), (("swap", 2, 1),), unlike_standing(("row", 6)), 1, 5),
        ]), ("turns", (0, 1)))

    def test_all_mixed_anew(self):
        seen = set()
        for board in BOARDS:
            for at, book in enumerate(some_books(board, 4, seed=25)):
                for one in some_standings(board):
                    other = mixed(board, book, one, at)
                    with self.subTest(board=board, book=book, one=one, other=other):
                        told = self.told(board, book, one, other)
                        self.assertEqual(told is None, leads_by_hand(board, book, one, other))
                        seen.add(told and told[0])
        self.assertEqual(seen, {None, "turns"})

    def test_what_is_handed_in_stays(self):
        board, book = ("row", 6), (("swap", 2, 1),)
        one = unlike_standing(board)
        other = exchanged(board, book, one, 0, 2)
        shown = repr((board, book, one, other))
        barred(board, book, one, other)
        self.assertEqual(repr((board, book, one, other)), shown)


class AgainstWalks(Told):
    def check(self, board, book, one):
        chance = random.Random(f"{board} {book} {one}")
        led = all_led(board, book, one)
        others = [chance.choice(list(led)) for _ in range(20)]
        for at in range(20):
            others.append(mixed(board, book, one, at))
            things = [(name, chance.randint(0, 1)) for name, _ in one]
            others.append(tuple(chance.sample(things, len(things))))
        for other in others:
            with self.subTest(board=board, book=book, one=one, other=other):
                self.assertEqual(self.told(board, book, one, other) is None, other in led)

    def test_small_boards(self):
        small = [("row", n) for n in range(3, 8)] + [("ring", n) for n in range(5, 8)]
        for board in small + [floor for floor in FLOORS if 3 <= size(floor) <= 7]:
            books = [(rule,) for rule in all_rules(board)] + some_books(board, 6, seed=26)
            for book in dict.fromkeys(books):
                for one in some_standings(board) + [names_standing(board, ("a", "a", "b", "a"))]:
                    if len(all_led(board, book, one, 2500)) <= 2500:
                        self.check(board, book, one)

    def test_all_standings_of_three_things(self):
        row, faces = ("row", 3), [(a, b, c) for a in (0, 1) for b in (0, 1) for c in (0, 1)]
        for book in ((("swap", 1, 0),), (("swap", 1, 1),), (("swap", 1, 0), ("swap", 1, 1))):
            standings = [
                tuple(zip(word, turned)) for turned in faces
                for word in ("abc", "acb", "bac", "bca", "cab", "cba", "aab", "aba", "baa", "aaa")
            ]
            for one in standings:
                led = all_led(row, book, one)
                for other in standings:
                    self.assertEqual(self.told(row, book, one, other) is None, other in led)

    def test_rows_of_two_classes(self):
        for board, book in ((("row", 8), (("swap", 2, 1),)), (("row", 9), (("swap", 3, 0),))):
            for names in (("a", "b", "c", "d"), tuple("abcdefgh"), tuple("aabcdefgh")):
                self.check(board, book, tuple((name, 0) for name in (names * 3)[:size(board)]))


class Kinds(unittest.TestCase):
    def test_samples_are_what_they_say(self):
        for board, book in TURNS:
            one = unlike_standing(board)
            for kinds in kinds_by_hand(board, book, one):
                self.assertEqual(len(set(kinds)), len(kinds))
            self.assertTrue(deeds_by_hand(board, book))


if __name__ == "__main__":
    unittest.main()
