"""What DOC.md promises over the whole program."""

import unittest

from stridelots.books.doing import done
from stridelots.books.rules import all_deeds, need_book, pairs_of
from stridelots.boards.cells import cells_many
from stridelots.boards.texts import read_standing, standing_shown
from stridelots.counts.fewest import fewest, steps_of
from stridelots.counts.many import many_led
from stridelots.errors import Barred, NoPair, NoTurning, TooMany
from stridelots.papers.barred import barred
from stridelots.papers.looker import barred_shown
from stridelots.plans.texts import read_plans, turning_of
from stridelots.signs.rows import lots_of, sign_row, span_of
from stridelots.signs.turns import turning_signs
from stridelots.ways.led import led
from stridelots.ways.rounds import pair_turned, round_of
from stridelots.webs.classes import classes_of
from stridelots.webs.marks import is_even, kinds_of
from stridelots.yard import Yard
from tests.samples import (
    BOARDS, FLOORS, GREATEST, all_rules, done_by_hand, exchanged, is_plain, mixed, names_standing, size,
    some_books, some_deeds, some_standings, turned_over, unlike_standing,
)


def answer(call, *handed, **how):
    """What is told, or what a refusal keeps."""
    try:
        return call(*handed, **how)
    except (Barred, NoPair, NoTurning, TooMany) as refusal:
        return type(refusal), vars(refusal)


def all_told(board, book):
    """What is told of a board, its book and standings of it."""
    one = unlike_standing(board)
    other = mixed(board, book, one)
    cells = classes_of(board, book)[0]
    deed = all_deeds(board, book)[-1]
    few = (("a", 0),) * (size(board) - 1) + (("b", 0),)
    return [
        cells_many(board), need_book(board, book), all_deeds(board, book), pairs_of(board, book, deed),
        classes_of(board, book), is_even(board, book), kinds_of(board, book, one), sign_row(board, book, deed),
        span_of(board, book), lots_of(board, book), answer(turning_signs, board, book, one, other),
        answer(turning_signs, board, book, one, few), barred(board, book, one, other), barred(board, book, one, few),
        answer(led, board, book, one, other), answer(led, board, book, one, few),
        round_of(board, book, *cells[:3]), answer(pair_turned, board, book, *cells[:2]),
        many_led(board, book, one), many_led(board, book, few), answer(fewest, board, book, one, other),
        answer(steps_of, board, book, few), turning_of(board, book, (deed, all_deeds(board, book)[0])),
        standing_shown(board, other),
    ]


class Whole(unittest.TestCase):
    def test_alike_behind_the_same_asked_of_another(self):
        asked = [(board, book) for board in GREATEST + BOARDS[::9] for book in some_books(board, 2, seed=90)]
        asked += [(board, (rule[:-1] + (1 - rule[-1],),)) for board, (rule, *_) in asked[::3]]
        before = [all_told(board, book) for board, book in asked]
        for (board, book), told in list(zip(asked, before))[::-1]:
            with self.subTest(board=board, book=book):
                self.assertEqual(all_told(board, book), told)

    def test_either_deeds_or_a_paper(self):
        seen = {True: 0, False: 0}
        for board in BOARDS[::2]:
            for at, book in enumerate(some_books(board, 4, seed=91)):
                for one in some_standings(board) + [names_standing(board, ("a", "b"), at)]:
                    cells = classes_of(board, book)[-1]
                    for other in (
                        mixed(board, book, one, at), exchanged(board, book, one, cells[0], cells[1]),
                        turned_over(one, cells[0], cells[1]), one,
                    ):
                        with self.subTest(board=board, book=book, one=one, other=other):
                            paper = barred(board, book, one, other)
                            seen[paper is None] += 1
                            if paper is None:
                                deeds = led(board, book, one, other)
                                self.assertEqual(done_by_hand(board, book, one, deeds), other)
                            else:
                                self.assertTrue(barred_shown(board, book, one, other, paper))
                                with self.assertRaises(Barred):
                                    led(board, book, one, other)
        self.assertGreater(min(seen.values()), 100)

    def test_told_deeds_are_handed_on(self):
        for board in GREATEST + BOARDS[::5]:
            for book in some_books(board, 2, seed=92):
                one = unlike_standing(board)
                other = done(board, book, one, some_deeds(board, book, 30))
                deeds = led(board, book, one, other)
                self.assertEqual(done(board, book, one, deeds), other)
                self.assertEqual(done(board, book, other, deeds, back=True), one)
                turning = turning_of(board, book, deeds)
                self.assertEqual(turning.on(one), other)
                self.assertEqual(turning.turned_back().on(other), one)
                for deed in deeds[:20]:
                    self.assertIn(deed, all_deeds(board, book))
                    self.assertTrue(pairs_of(board, book, deed))
                yard = Yard(board, book)
                yard.put("a", one)
                self.assertEqual(yard.do("a", deeds), other)
                self.assertEqual(yard.lead("a", one), len(led(board, book, other, one)))
                self.assertEqual(done(board, book, one, yard.log("a")), one)

    def test_told_rounds_and_pairs_are_handed_on(self):
        for board in GREATEST:
            for book in some_books(board, 4, seed=93):
                cells = classes_of(board, book)[-1]
                x, y, z = cells[-1], cells[0], cells[1]
                deeds = round_of(board, book, x, y, z)
                goes = turning_of(board, book, deeds).goes
                due = dict(zip(range(36), range(36))) | {x: y, y: z, z: x}
                self.assertEqual(goes, tuple(due[cell] for cell in range(36)))
                self.assertEqual(turning_of(board, book, deeds * 3).goes, tuple(range(36)))
                if not is_even(board, book):
                    turning = turning_of(board, book, pair_turned(board, book, x, y))
                    self.assertEqual(turning.goes, tuple(range(36)))
                    self.assertEqual(turning.turns, tuple(int(cell in (x, y)) for cell in range(36)))

    def test_told_papers_are_handed_on(self):
        for board in GREATEST:
            for book in some_books(board, 4, seed=94):
                one = unlike_standing(board)
                other = turned_over(one, 35)
                with self.assertRaises(Barred) as caught:
                    led(board, book, one, other)
                with self.assertRaises(Barred) as again:
                    fewest(board, book, one, other)
                for paper in (caught.exception.paper, again.exception.paper, barred(board, book, one, other)):
                    self.assertTrue(is_plain(paper))
                    self.assertIs(barred_shown(board, book, one, other, paper), True)
                    # It shows nothing of a standing that comes.
                    self.assertIs(barred_shown(board, book, one, one, paper), False)

    def test_told_standings_are_handed_on(self):
        for board in [("row", 12), ("ring", 15), ("floor", 4, 5)]:
            for book in some_books(board, 3, seed=95):
                one = read_standing(board, standing_shown(board, some_standings(board)[1]))
                for name, turning, _ in read_plans(board, book, "a: 0@0 0@1\nb: a*7 -a 0@0*3\nc: -b*2 a"):
                    other = turning.on(one)
                    self.assertEqual(done(board, book, one, led(board, book, one, other)), other, name)
                    self.assertEqual(many_led(board, book, one), many_led(board, book, other))
                    self.assertEqual(read_standing(board, standing_shown(board, other)), other)

    def test_fewest_are_no_more_than_led(self):
        for board in [floor for floor in FLOORS if size(floor) <= 6 and all_rules(floor)] + [("row", 5), ("ring", 6)]:
            for book in some_books(board, 4, seed=96):
                for one in some_standings(board)[1:]:
                    other = mixed(board, book, one)
                    if barred(board, book, one, other) is None and many_led(board, book, one) <= 3000:
                        deeds = fewest(board, book, one, other)
                        self.assertLessEqual(len(deeds), len(led(board, book, one, other)))
                        self.assertEqual(done(board, book, one, deeds), other)
                        self.assertLess(len(deeds), len(steps_of(board, book, one)))


if __name__ == "__main__":
    unittest.main()
