import random
import time
import unittest

from stridelots.plans.turnings import Turning
from tests.samples import is_plain

FAR = 10 ** 18
STILL = Turning((0, 1, 2), (0, 0, 0))
ROUND = Turning((1, 2, 0), (0, 0, 0))
BENT = Turning((1, 2, 0), (1, 0, 0))
SWAP = Turning((1, 0, 2), (1, 1, 0))
OVER = Turning((0, 1, 2), (0, 1, 0))
ABC = (("a", 0), ("b", 1), ("c", 0))

# Rings of 1, 2, 3, 4, 5, 6, 7 and 8 cells: as much as 36 cells hold of unlike lengths.
LENGTHS = (1, 2, 3, 4, 5, 6, 7, 8)


def made_of_rings(lengths, turns):
    goes = []
    for length in lengths:
        begin = len(goes)
        goes += [begin + (k + 1) % length for k in range(length)]
    return Turning(tuple(goes), tuple(turns))


def some_turnings(cells, many):
    chance = random.Random(cells)
    told = []
    for _ in range(many):
        goes = list(range(cells))
        chance.shuffle(goes)
        told.append(Turning(tuple(goes), tuple(chance.randint(0, 1) for _ in goes)))
    return told


def standing_of(cells):
    return tuple((f"{chr(97 + x // 6)}{chr(97 + x % 6)}", x % 2) for x in range(cells))


def on_by_hand(turning, standing):
    things = {}
    for x, (name, face) in enumerate(standing):
        things[turning.goes[x]] = (name, face ^ turning.turns[x])
    return tuple(things[x] for x in range(len(standing)))


class Made(unittest.TestCase):
    def test_goes_and_turns_are_kept(self):
        turning = Turning((1, 2, 0), (1, 0, 1))
        self.assertEqual(turning.goes, (1, 2, 0))
        self.assertEqual(turning.turns, (1, 0, 1))
        turning.behind(turning)
        turning.often(7)
        turning.turned_back()
        turning.on(ABC)
        repr(turning)
        self.assertEqual((turning.goes, turning.turns), ((1, 2, 0), (1, 0, 1)))

    def test_length(self):
        for cells in (1, 2, 3, 35, 36):
            turning = Turning(tuple(range(cells)), (0,) * cells)
            self.assertEqual(len(turning), cells)

    def test_listed_methods_stand_in_the_class(self):
        for name in ("behind", "turned_back", "often", "home", "on", "__eq__", "__len__", "__repr__"):
            self.assertIn(name, vars(Turning))


class Alike(unittest.TestCase):
    def test_like_ones(self):
        for turning in (STILL, ROUND, BENT, SWAP, OVER, *some_turnings(36, 5)):
            twin = Turning(tuple(list(turning.goes)), tuple(list(turning.turns)))
            self.assertTrue(turning == twin)
            self.assertFalse(turning != twin)
            self.assertTrue(turning == turning)
            self.assertIs(turning == twin, True)

    def test_unlike_ones(self):
        kinds = [STILL, ROUND, BENT, SWAP, OVER, Turning((2, 0, 1), (0, 0, 0))]
        kinds += [Turning((0,), (0,)), Turning((0,), (1,)), Turning((0, 1), (0, 0))]
        for at, one in enumerate(kinds):
            for other in kinds[:at] + kinds[at + 1:]:
                self.assertFalse(one == other)
                self.assertTrue(one != other)
                self.assertIs(one == other, False)

    def test_what_is_no_turning(self):
        for other in (
            None, 0, 3, "()", "", (), ((0, 1, 2), (0, 0, 0)), [], {}, object(), True, repr(STILL),
        ):
            self.assertFalse(STILL == other)
            self.assertFalse(other == STILL)
            self.assertTrue(STILL != other)


class Shown(unittest.TestCase):
    def expect(self, turning, text):
        with self.subTest(text=text):
            self.assertEqual(repr(turning), text)
            self.assertEqual(str(turning), text)
            self.assertEqual(f"{turning}", text)
            self.assertEqual(f"{turning!r}", text)
            self.assertEqual(repr(turning), text)

    def test_no_rings(self):
        for cells in (1, 2, 3, 36):
            self.expect(Turning(tuple(range(cells)), (0,) * cells), "()")

    def test_rings(self):
        self.expect(ROUND, "(0 1 2)")
        self.expect(Turning((2, 0, 1), (0, 0, 0)), "(0 2 1)")
        self.expect(Turning((1, 0, 2), (0, 0, 0)), "(0 1)")
        self.expect(Turning((0, 2, 1), (0, 0, 0)), "(1 2)")
        self.expect(Turning((3, 4, 2, 0, 1), (0,) * 5), "(0 3)(1 4)")
        self.expect(Turning((0, 3, 4, 5, 2, 1), (0,) * 6), "(1 3 5)(2 4)")

    def test_dashes(self):
        self.expect(BENT, "(-0 1 2)")
        self.expect(SWAP, "(-0 -1)")
        self.expect(Turning((1, 2, 0), (0, 1, 1)), "(0 -1 -2)")
        self.expect(Turning((2, 0, 1), (0, 1, 0)), "(0 2 -1)")
        self.expect(Turning((3, 4, 2, 0, 1), (0, 1, 0, 1, 0)), "(0 -3)(-1 4)")

    def test_single_cells(self):
        self.expect(OVER, "(-1)")
        self.expect(Turning((0,), (1,)), "(-0)")
        self.expect(Turning((0, 1, 2), (1, 1, 1)), "(-0)(-1)(-2)")
        self.expect(Turning((0, 2, 1, 3), (1, 0, 1, 0)), "(-0)(1 -2)")
        self.expect(Turning((3, 1, 2, 0), (0, 1, 0, 0)), "(0 3)(-1)")

    def test_36_cells(self):
        goes = tuple((x + 1) % 36 for x in range(36))
        self.expect(Turning(goes, (0,) * 36), "(" + " ".join(map(str, range(36))) + ")")
        self.expect(Turning(goes, (1,) * 36), "(" + " ".join(f"-{x}" for x in range(36)) + ")")
        swaps = tuple(35 - x for x in range(36))
        self.expect(Turning(swaps, (0,) * 36), "".join(f"({x} {35 - x})" for x in range(18)))
        self.expect(
            Turning(tuple(range(36)), (0, 1) * 18), "".join(f"(-{x})" for x in range(1, 36, 2)),
        )


class Reckoned(unittest.TestCase):
    def check(self, turning, goes, turns):
        self.assertEqual((turning.goes, turning.turns), (goes, turns))
        self.assertIs(type(turning), Turning)
        self.assertTrue(is_plain((turning.goes, turning.turns)))

    def test_behind(self):
        self.check(ROUND.behind(ROUND), (2, 0, 1), (0, 0, 0))
        self.check(BENT.behind(OVER), (1, 2, 0), (0, 0, 0))
        self.check(OVER.behind(BENT), (1, 2, 0), (1, 1, 0))
        self.check(SWAP.behind(ROUND), (2, 1, 0), (1, 1, 0))
        self.check(ROUND.behind(SWAP), (0, 2, 1), (1, 0, 1))
        self.check(Turning((0,), (1,)).behind(Turning((0,), (1,))), (0,), (0,))
        self.check(STILL.behind(BENT), BENT.goes, BENT.turns)
        self.check(BENT.behind(STILL), BENT.goes, BENT.turns)

    def test_behind_on_standings(self):
        for cells in (1, 2, 3, 5, 12, 36):
            standing = standing_of(cells)
            turnings = some_turnings(cells, 12)
            for one, other in zip(turnings, turnings[1:]):
                due = on_by_hand(other, on_by_hand(one, standing))
                self.assertEqual(one.behind(other).on(standing), due)
                self.assertEqual(other.on(one.on(standing)), due)

    def test_turned_back(self):
        self.check(ROUND.turned_back(), (2, 0, 1), (0, 0, 0))
        self.check(BENT.turned_back(), (2, 0, 1), (0, 1, 0))
        self.check(SWAP.turned_back(), SWAP.goes, SWAP.turns)
        for cells in (1, 2, 3, 5, 12, 36):
            still = Turning(tuple(range(cells)), (0,) * cells)
            for turning in some_turnings(cells, 12):
                back = turning.turned_back()
                self.assertTrue(is_plain((back.goes, back.turns)))
                self.assertEqual(turning.behind(back), still)
                self.assertEqual(back.behind(turning), still)
                self.assertEqual(back.turned_back(), turning)

    def test_often(self):
        self.check(BENT.often(0), (0, 1, 2), (0, 0, 0))
        self.check(BENT.often(1), (1, 2, 0), (1, 0, 0))
        self.check(BENT.often(2), (2, 0, 1), (1, 0, 1))
        self.check(BENT.often(3), (0, 1, 2), (1, 1, 1))
        self.check(BENT.often(6), (0, 1, 2), (0, 0, 0))
        self.check(BENT.often(-1), (2, 0, 1), (0, 1, 0))
        self.check(OVER.often(2), (0, 1, 2), (0, 0, 0))
        self.check(OVER.often(-7), (0, 1, 2), (0, 1, 0))

    def test_often_against_one_by_one(self):
        for cells in (1, 2, 3, 5, 12, 36):
            for turning in some_turnings(cells, 6):
                told = Turning(tuple(range(cells)), (0,) * cells)
                back = told
                for many in range(50):
                    self.check(turning.often(many), told.goes, told.turns)
                    self.check(turning.often(-many), back.goes, back.turns)
                    told = told.behind(turning)
                    back = back.behind(turning.turned_back())

    def test_often_at_the_ends(self):
        begin = time.monotonic()
        for cells in (1, 2, 3, 5, 12, 36):
            for turning in some_turnings(cells, 20):
                home = turning.home()
                self.assertEqual(turning.often(FAR), turning.often(FAR % home))
                self.assertEqual(turning.often(-FAR), turning.often(-(FAR % home)))
                self.assertEqual(turning.often(-FAR), turning.often(FAR).turned_back())
                self.assertEqual(turning.often(-FAR), turning.turned_back().often(FAR))
        self.assertLess(time.monotonic() - begin, 10)
        self.check(ROUND.often(FAR), ROUND.goes, ROUND.turns)
        self.check(BENT.often(FAR), (1, 2, 0), (0, 1, 1))
        self.check(SWAP.often(FAR), STILL.goes, STILL.turns)
        self.check(SWAP.often(FAR - 1), SWAP.goes, SWAP.turns)
        self.check(SWAP.often(1 - FAR), SWAP.goes, SWAP.turns)

    def test_often_of_sums(self):
        chance = random.Random(19)
        for cells in (1, 3, 12, 36):
            for turning in some_turnings(cells, 12):
                one, other = chance.randint(-FAR, FAR) // 2, chance.randint(-FAR, FAR) // 2
                due = turning.often(one).behind(turning.often(other))
                self.assertEqual(turning.often(one + other), due)
                self.assertEqual(turning.often(one).often(7), turning.often(7 * one))

    def test_home(self):
        for turning, due in (
            (STILL, 1), (ROUND, 3), (BENT, 6), (SWAP, 2), (OVER, 2),
            (Turning((0,), (0,)), 1), (Turning((0,), (1,)), 2),
            (Turning((1, 0), (1, 0)), 4), (Turning((1, 0), (0, 1)), 4), (Turning((1, 0), (1, 1)), 2),
            (Turning((1, 0, 3, 4, 2), (0,) * 5), 6),
            (Turning((1, 0, 3, 4, 2), (0, 1, 0, 0, 0)), 12),
            (Turning((1, 0, 3, 4, 2), (0, 0, 1, 1, 1)), 6),
            (Turning(tuple(range(36)), (0,) * 36), 1),
            (Turning(tuple((x + 1) % 36 for x in range(36)), (1,) + (0,) * 35), 72),
            (made_of_rings(LENGTHS, (0,) * 36), 840),
            (made_of_rings(LENGTHS, (0,) * 35 + (1,)), 1680),
            (made_of_rings((3, 4, 5, 7, 17), (0,) * 36), 7140),
        ):
            self.assertEqual(turning.home(), due)
            self.assertIs(type(turning.home()), int)

    def test_home_is_the_least(self):
        for cells in (1, 2, 3, 5, 9):
            still = Turning(tuple(range(cells)), (0,) * cells)
            for turning in some_turnings(cells, 30):
                told, many = turning, 1
                while told != still:
                    told, many = told.behind(turning), many + 1
                self.assertEqual(turning.home(), many)

    def test_on(self):
        a, b, c = ABC
        for turning, due in (
            (STILL, (a, b, c)), (ROUND, (c, a, b)), (BENT, (c, ("a", 1), b)),
            (SWAP, (("b", 0), ("a", 1), c)), (OVER, (a, ("b", 0), c)),
        ):
            told = turning.on(ABC)
            self.assertEqual(told, due)
            self.assertTrue(is_plain(told))
            self.assertEqual(turning.on(ABC), due)
        self.assertEqual(ABC, (("a", 0), ("b", 1), ("c", 0)))
        alike = (("a", 0),) * 3
        self.assertEqual(BENT.on(alike), (("a", 0), ("a", 1), ("a", 0)))

    def test_on_against_hand(self):
        for cells in (1, 2, 3, 12, 36):
            standing = standing_of(cells)
            for turning in some_turnings(cells, 12):
                self.assertEqual(turning.on(standing), on_by_hand(turning, standing))
                self.assertEqual(turning.turned_back().on(turning.on(standing)), standing)


if __name__ == "__main__":
    unittest.main()
