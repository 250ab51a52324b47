import time
import unittest

from stridelots.errors import NoPlan, StrideError
from stridelots.plans.texts import read_plans, turning_of
from stridelots.plans.turnings import Turning
from tests.samples import is_plain

ROW = ("row", 6)
BOOK = (("swap", 2, 0), ("swap", 1, 1))
RING = ("ring", 12)
RING_BOOK = (("swap", 1, 0), ("swap", 2, 1))
FLOOR = ("floor", 3, 3)
FLOOR_BOOK = (("over", 1, 1, 0), ("under", 1, 2, 1))
FAR = 10 ** 18


class Plans(unittest.TestCase):
    def read(self, text, board=ROW, book=BOOK):
        begin = time.monotonic()
        told = read_plans(board, book, text)
        self.assertLess(time.monotonic() - begin, 5)
        self.assertIs(type(told), tuple)
        for plan in told:
            self.assertIs(type(plan), tuple)
            name, turning, many = plan
            self.assertEqual((type(name), type(turning), type(many)), (str, Turning, int))
            self.assertTrue(is_plain((turning.goes, turning.turns)))
        self.assertEqual(read_plans(board, book, text), told)
        return told

    def expect(self, text, *due, board=ROW, book=BOOK):
        """Each plan due is its name, the deeds that it does one by one, and how many they are."""
        with self.subTest(text=text):
            plans = [(name, turning_of(board, book, tuple(deeds)), many) for name, deeds, many in due]
            self.assertEqual(self.read(text, board, book), tuple(plans))


class Read(Plans):
    def test_one_deed(self):
        self.expect("a: 0@0", ("a", [(0, 0)], 1))
        self.expect("abcd: 1@4", ("abcd", [(1, 4)], 1))
        self.expect("z: 0@2 1@0", ("z", [(0, 2), (1, 0)], 2))
        self.expect("z: 1@0 0@2", ("z", [(1, 0), (0, 2)], 2))
        self.expect("z: 0@11", ("z", [(0, 11)], 1), board=RING, book=RING_BOOK)
        self.expect("z: 1@10 0@0", ("z", [(1, 10), (0, 0)], 2), board=RING, book=RING_BOOK)
        self.expect("z: 1@4 0@7", ("z", [(1, 4), (0, 7)], 2), board=FLOOR, book=FLOOR_BOOK)

    def test_deeds_often(self):
        self.expect("a: 1@0*0", ("a", [], 0))
        self.expect("a: 1@0*1", ("a", [(1, 0)], 1))
        self.expect("a: 1@0*2", ("a", [], 2))
        self.expect("a: 1@0*3 1@1*10", ("a", [(1, 0)], 13))
        self.expect(f"a: 1@0*{FAR}", ("a", [], FAR))
        self.expect(f"a: 1@0*{FAR - 1}", ("a", [(1, 0)], FAR - 1))

    def test_plans_within_plans(self):
        one = [(1, 0), (1, 1)]
        self.expect("a: 1@0 1@1\nb: a", ("a", one, 2), ("b", one, 2))
        self.expect("a: 1@0 1@1\nb: -a", ("a", one, 2), ("b", one[::-1], 2))
        self.expect("a: 1@0 1@1\nb: a 0@1", ("a", one, 2), ("b", [*one, (0, 1)], 3))
        self.expect("a: 1@0 1@1\nb: 0@1 -a", ("a", one, 2), ("b", [(0, 1), *one[::-1]], 3))
        self.expect("a: 1@0 1@1\nb: a -a", ("a", one, 2), ("b", [], 4))
        b = [*one, (0, 1), *one]
        self.expect(
            "a: 1@0 1@1\nb: a 0@1 a\nc: b -a -b*2 b",
            ("a", one, 2), ("b", b, 5), ("c", [*b, *one[::-1], *b[::-1], *b[::-1], *b], 22),
        )

    def test_plans_often(self):
        one = [(1, 0), (1, 1), (0, 2)]
        head = "a: 1@0 1@1 0@2\n"
        for many in (0, 1, 2, 3, 7, 20):
            self.expect(f"{head}b: a*{many}", ("a", one, 3), ("b", one * many, 3 * many))
            self.expect(f"{head}b: -a*{many}", ("a", one, 3), ("b", one[::-1] * many, 3 * many))
        home = turning_of(ROW, BOOK, tuple(one)).home()
        rest = FAR % home
        self.expect(f"{head}b: a*{FAR}", ("a", one, 3), ("b", one * rest, 3 * FAR))
        self.expect(f"{head}b: -a*{FAR}", ("a", one, 3), ("b", one[::-1] * rest, 3 * FAR))
        self.expect(f"{head}b: a*{FAR} -a*{FAR}", ("a", one, 3), ("b", [], 6 * FAR))

    def test_each_plan_is_told_in_order(self):
        told = self.read("z: 0@0\nb: z\na: 0@1\nzz: b")
        self.assertEqual([name for name, _, _ in told], ["z", "b", "a", "zz"])

    def test_names(self):
        self.expect("x: 0@0\nxx: x\nxxx: -xx\nxxxx: xxx*3",
                    ("x", [(0, 0)], 1), ("xx", [(0, 0)], 1), ("xxx", [(0, 0)], 1), ("xxxx", [(0, 0)], 3))

    def test_30_rows_of_20_words(self):
        names = [chr(97 + at // 26) + chr(97 + at % 26) for at in range(30)]
        rows = [f"{names[0]}: " + " ".join(["1@0", "0@1"] * 10)]
        for name, ahead in zip(names[1:], names):
            rows.append(f"{name}: " + " ".join([ahead, "-" + ahead, ahead, ahead] * 5))
        told = self.read("\n".join(rows))
        self.assertEqual([many for _, _, many in told], [20 ** at for at in range(1, 31)])
        turning = turning_of(ROW, BOOK, ((1, 0), (0, 1)) * 10)
        for _, found, _ in told:
            self.assertEqual(found, turning)
            turning = turning.often(10)

    def test_somewhat_more_rows_and_words(self):
        # DOC.md tells of at most 30 rows of 20 words, but of no refusal of more.
        names = [chr(97 + at // 26) + chr(97 + at % 26) for at in range(33)]
        told = self.read("\n".join(f"{name}: " + " ".join(["0@0"] * 23) for name in names))
        turning = turning_of(ROW, BOOK, ((0, 0),))
        self.assertEqual(told, tuple((name, turning, 23) for name in names))

    def test_as_great_as_it_gets(self):
        names = [chr(97 + at // 26) + chr(97 + at % 26) for at in range(30)]
        rows = [f"{names[0]}: 1@0*{FAR} 1@1*{FAR} 0@0 1@4"]
        turning = turning_of(ROW, BOOK, ((0, 0), (1, 4)))
        for name, ahead in zip(names[1:], names):
            rows.append(f"{name}: {ahead}*{FAR} -{ahead}*{FAR} {ahead}*{FAR - 1}")
        told = self.read("\n".join(rows))
        many = 2 * FAR + 2
        for _, found, deeds in told:
            self.assertEqual(found, turning)
            self.assertEqual(deeds, many)
            turning = turning.often(FAR - 1)
            many = many * (3 * FAR - 1)

    def test_what_is_told_is_not_changed_by_more(self):
        told = self.read("a: 1@0 1@1\nb: a*2 -a")
        shown = repr(told)
        told[0][1].behind(told[1][1])
        told[1][1].often(5)
        self.read("a: 0@0\nb: 0@1")
        self.assertEqual(repr(told), shown)


class Refused(Plans):
    def refused(self, text, row, board=ROW, book=BOOK):
        with self.subTest(text=text):
            for _ in range(2):
                with self.assertRaises(NoPlan) as caught:
                    read_plans(board, book, text)
                self.assertIs(type(caught.exception), NoPlan)
                self.assertIsInstance(caught.exception, StrideError)
                self.assertEqual(caught.exception.row, row)
                self.assertIs(type(caught.exception.row), int)

    def wrong_row(self, line):
        """The row is none, wherever it stands."""
        self.refused(line, 0)
        self.refused(f"{line}\na: 0@0", 0)
        self.refused(f"a: 0@0\n{line}", 1)
        self.refused(f"a: 0@0\nb: a\n{line}\nd: 0@0\n{line}", 2)

    def wrong_word(self, word):
        self.wrong_row(f"c: {word}")
        self.wrong_row(f"c: 0@0 {word}")
        self.wrong_row(f"c: {word} 0@0")
        self.wrong_row(f"c: {word}*2")
        self.wrong_row(f"c: -{word}")

    def test_rows_without_signs(self):
        self.refused("", 0)
        self.refused("\n", 0)
        self.refused("\n\n\n", 0)
        self.refused("\na: 0@0", 0)
        self.refused("a: 0@0\n", 1)
        self.refused("a: 0@0\n\nb: 0@0", 1)
        self.refused("a: 0@0\nb: 0@0\n\n", 2)
        self.refused("a: 0@0\nb: 0@0\n", 2)

    def test_blanks(self):
        for line in (
            " ", "  ", "c:  0@0", "c: 0@0  0@0", " c: 0@0", "c: 0@0 ", "c: ", "c: 0@0 0@0 ",
            "c : 0@0", "c: 0@0  ", "  c: 0@0", "c: 0 @0", "c: 0@ 0", "c: 0@0 *2", "c: 0@0* 2",
            "c: - c", "c:\t0@0",
        ):
            self.wrong_row(line)

    def test_colons(self):
        for line in (
            "c", "c 0@0", ":", ": 0@0", "c:0@0", "c 0@0:", "c:: 0@0", ":c 0@0", "c: 0@0:", "c: :0@0",
            "c: :", "c:c: 0@0", "0@0", "c 0@0", "c ; 0@0", "c; 0@0",
        ):
            self.wrong_row(line)

    def test_rows_without_words(self):
        self.wrong_row("c:")
        self.wrong_row("c: ")

    def test_names_that_are_none(self):
        for name in ("C", "abcde", "c1", "1", "0@0", "-c", "c-", "c.", "", "-", "/", "c*2", "aB", "*"):
            self.wrong_row(f"{name}: 0@0")

    def test_names_told_twice(self):
        self.refused("a: 0@0\na: 0@0", 1)
        self.refused("a: 0@0\nb: 0@0\na: 0@1", 2)
        self.refused("a: 0@0\nb: 0@0\nb: b\na: a", 2)

    def test_names_not_told_ahead(self):
        self.refused("a: b", 0)
        self.refused("a: b\nb: 0@0", 0)
        self.refused("a: 0@0\nb: c\nc: 0@0", 1)
        self.refused("a: 0@0\nb: -c\nc: 0@0", 1)
        self.refused("a: a", 0)
        self.refused("a: -a", 0)
        self.refused("a: 0@0\nb: a b", 1)
        self.refused("a: 0@0 a*0", 0)
        self.refused("a: 0@0\nb: c*0", 1)
        self.refused("a: 0@0\nb: aa", 1)

    def test_no_deeds(self):
        for word in ("0@3", "0@6", "1@5", "2@0", "3@0", "0@999", "1000000000000000000@0"):
            self.wrong_word(word)
            self.wrong_row(f"c: {word}*0")
        self.wrong_row("c: 0@1000000000000000000")
        self.refused("a: 0@11\nb: 0@12", 1, RING, RING_BOOK)
        self.refused("a: 0@2", 0, FLOOR, FLOOR_BOOK)
        self.refused("a: 1@2", 0, FLOOR, FLOOR_BOOK)
        self.refused("a: 1@6", 0, FLOOR, FLOOR_BOOK)
        self.refused("a: 0@0 0@8", 0, FLOOR, FLOOR_BOOK)
        # Numbers below 0 would be found from the end of a tuple.
        self.wrong_word("-1@0")
        self.wrong_word("0@-1")

    def test_words_that_are_none(self):
        for word in (
            "@", "0@", "@0", "0@0@0", "0@@0", "0", "A@0", "a@0", "0@a", "A", "abcde", "--a", "a-", "-",
            "/", "a/", "a@", "@a", "0.0", "0@0,", "(a)", "_", "0:0", "a:",
        ):
            self.wrong_word(word)

    def test_dash_ahead_of_a_deed(self):
        self.wrong_row("c: -0@0")
        self.wrong_row("c: -0@0*2")

    def test_numbers(self):
        for number in (
            "00", "01", "000", "-0", "-1", "+0", "+1", "0x0", "1e0", "1_0", "0.", " 0", "0b", "o",
            str(FAR + 1), "9" * 19, "1" + "0" * 19, "9" * 20, "0" * 20, "9" * 2000, "",
        ):
            self.wrong_word(f"{number}@0")
            self.wrong_word(f"0@{number}")
            self.wrong_row(f"c: 0@0*{number}")
            self.refused(f"a: 0@0\nc: a*{number}", 1)
            self.refused(f"a: 0@0\nc: -a*{number}", 1)

    def test_figures_of_other_scripts(self):
        for sign in "\u0660\u0967\u00b2\u00bd\uff11\u2460":
            self.wrong_row(f"c: {sign}@0")
            self.wrong_row(f"c: 0@{sign}")
            self.wrong_row(f"c: 0@0*{sign}")
            self.wrong_row(f"c: 0@0*1{sign}")

    def test_stars(self):
        for word in (
            "0@0*", "*", "*2", "0@0**2", "0@0*2*2", "0@0*2*", "*0@0", "2*0@0", "0*2@0", "0@0*2@0", "0@0*a",
            "0@0*-1", "0@0*-", "0@0*2-",
        ):
            self.wrong_row(f"c: {word}")
        for word in ("a*", "a**2", "a*2*2", "-a*", "-a*2*2", "-*2", "a*-2", "2*a", "a*a", "*a", "-a*-2"):
            self.refused(f"a: 0@0\nc: {word}", 1)

    def test_other_line_ends(self):
        self.refused("a: 0@0\r\nb: 0@0", 0)
        self.refused("a: 0@0\rb: 0@0", 0)
        self.refused("a: 0@0 b: 0@0", 0)

    def test_first_of_several(self):
        self.refused("a: 0@0\nb: 9@9\na: 0@0\n", 1)
        self.refused("a: 0@0\na: 9@9\nb:", 1)
        self.refused("a: 0@0 9@9 0@0\nB: 0@0", 0)


if __name__ == "__main__":
    unittest.main()
