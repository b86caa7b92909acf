import unittest
from fractions import Fraction
from itertools import product

from fieldlots.blends import Blend
from fieldlots.notation import (chart, read_blend, read_ratio, read_run, read_whole, write_blend, write_ratio,
                                write_run)
from fieldlots.ratio import Ratio
from fieldlots.runs import Run
from fieldlots.sums import solve
from tests.helpers import BIG, TIES, ratio, refused, small_blends, small_runs, text_of_blend, walked_chance

NINES = 10 ** 60 - 1

# Neither Python's int nor its Fraction minds most of these.
NO_WHOLES = ("", " ", "+1", "+0", "01", "00", "007", "1_000", "_1", "1_", " 1", "1 ", "1\n", "\n1", "\t1", "1\t", "1.0", "1.",
             "1e3", "0x1", "0b1", "a", "one", "1,0", "1 0", "--1", "1-", "\u0661", "\u00b2", "\uff11", "1\u0663", "\u2460",
             "\u00bd", "\u22121", "1\x00", "1\u200b", "\u00a01", "1" + "0" * 60, "0" * 60, "0" + "1" * 60, "9" * 5000)


class Wholes(unittest.TestCase):
    def test_reading_back(self):
        for number in [*range(1200), BIG - 1, BIG, 10 ** 59, NINES]:
            found = read_whole(str(number))
            self.assertIs(type(found), int)
            self.assertEqual(found, number)
            self.assertEqual(write_ratio(number), str(number))

    def test_refused(self):
        for text in NO_WHOLES + ("-1", "-0", "1/2", "4/1", "-", "/", "1:1:1"):
            self.assertEqual(refused(read_whole, text), ("BadText", 0), text[:70])


class Ratios(unittest.TestCase):
    def test_written_forms(self):
        for number, text in ((0, "0"), (Ratio(0), "0"), (7, "7"), (Ratio(7), "7"), (-7, "-7"), (Ratio(-7), "-7"),
                             (Ratio(6, -4), "-3/2"), (Ratio(1, 3), "1/3"), (Ratio(10, 100), "1/10"), (BIG, "1" + "0" * 30),
                             (Ratio(-1, BIG), "-1/1" + "0" * 30)):
            self.assertEqual(write_ratio(number), text)
            self.assertIs(type(write_ratio(number)), str)
            self.assertIsInstance(read_ratio(text), Ratio)
            self.assertEqual(read_ratio(text), number)

    def test_reading_back(self):
        for top, under in product(range(-12, 13), range(1, 13)):
            number = Ratio(top, under)
            self.assertEqual(write_ratio(number), str(Fraction(top, under)))
            self.assertEqual(read_ratio(write_ratio(number)), number)

    def test_numbers_of_60_figures(self):
        for number in (NINES, -NINES, 10 ** 59, Ratio(NINES, 10 ** 59), Ratio(-NINES, NINES - 1), Ratio(1, NINES),
                       Ratio(-10 ** 59, NINES)):
            found = read_ratio(write_ratio(number))
            self.assertIsInstance(found, Ratio)
            self.assertEqual(found, number)
            self.assertEqual(write_ratio(found), write_ratio(number))

    def test_numbers_of_61_figures(self):
        for number in (NINES + 1, -NINES - 1, Ratio(NINES + 1, 7), Ratio(1, NINES + 1), Ratio(-1, NINES + 2), 10 ** 400):
            self.assertEqual(refused(read_ratio, write_ratio(number)), ("BadText", 0))

    def test_all_short_texts(self):
        # Of all texts of so few characters, just those that are written are read.
        written = {str(Fraction(top, under)) for top in range(-99, 100) for under in range(1, 100)}
        written.update(str(whole) for whole in range(-999, 10000))
        for size in range(5):
            for letters in product("012-/ ", repeat=size):
                text = "".join(letters)
                if text in written:
                    self.assertEqual(write_ratio(read_ratio(text)), text)
                else:
                    self.assertEqual(refused(read_ratio, text), ("BadText", 0), text)

    def test_refused(self):
        for text in NO_WHOLES:
            for form in (text, f"-{text}", f"{text}/7", f"1/{text}", f"-1/{text}"):
                self.assertEqual(refused(read_ratio, form), ("BadText", 0), form[:70])
        for text in ("-0", "0/1", "0/5", "-0/5", "1/1", "7/1", "-7/1", "1/0", "0/0", "-1/0", "2/4", "6/3", "-2/4",
                     "3/-2", "-3/-2", "1/+2", "1/2/3", "1//2", "/2", "1/", "-/2", "1 /2", "1/ 2", "- 1",
                     "1:1:1", "1*1", "1/2 ", "1/2\n"):
            self.assertEqual(refused(read_ratio, text), ("BadText", 0), text)


class Runs(unittest.TestCase):
    def test_reading_back(self):
        for run in small_runs((0, 1, 9, 10, BIG), (1, 2, 3, 10, BIG)):
            text = f"{run.first}:{run.step}:{run.count}"
            self.assertEqual(write_run(run), text)
            self.assertIsInstance(read_run(text), Run)
            self.assertEqual(read_run(text), run)

    def test_numbers_of_60_and_61_figures(self):
        for run in (Run(NINES, 4, NINES), Run(NINES, 1, 1), Run(0, 2, NINES)):
            self.assertEqual(read_run(write_run(run)), run)
        for run in (Run(NINES + 1, 4, NINES), Run(NINES + 1, 1, 1), Run(0, 2, NINES + 1)):
            self.assertEqual(refused(read_run, write_run(run)), ("BadText", 0))

    def test_refused(self):
        for text in NO_WHOLES + ("-1", "-0", "1/2"):
            for form in (f"{text}:1:1", f"1:{text}:2", f"1:1:{text}", text):
                self.assertEqual(refused(read_run, form), ("BadText", 0), form[:70])
        for text in ("1:0:2", "1:5:2", "1:0:1", "1:5:1", "1:2:1", "1:3:1", "1:4:1", "1:1:0", "1:2:0", "-1:1:1",
                     "-1:1:3", "1:1", "1", "1:1:1:1", ":1:1", "1::1", "1:1:", "::", "1:1:1:", ":1:1:1", "1:1:1 ", " 1:1:1",
                     "1: 1:1", "1;1;1", "1:1:1\n", "1*1:1:1", "1/1:1:1", "10:10:2"):
            self.assertEqual(refused(read_run, text), ("BadText", 0), text)


class Blends(unittest.TestCase):
    def check(self, blend):
        text = write_blend(blend)
        self.assertEqual(text, text_of_blend(blend))
        found = read_blend(text)
        self.assertIsInstance(found, Blend)
        self.assertEqual(found, blend)
        self.assertEqual(write_blend(found), text)

    def test_reading_back(self):
        for blend in small_blends():
            self.check(blend)
        for one, two, ties in product(range(6), range(6), TIES):
            verdict = solve(Ratio(one, 2), Ratio(two, 3), ties=ties)
            self.check(verdict.one)
            self.check(verdict.two)

    def test_the_example_of_the_document(self):
        blend = Blend([(Ratio(1, 3), Run.point(0)), (Ratio(2, 3), Run(1, 2, 4))])
        self.assertEqual(write_blend(blend), "1/3*0:1:1 + 2/3*1:2:4")
        self.check(blend)
        self.assertEqual(write_blend(Blend.of_run(Run.odd(2))), "1*1:2:2")

    def test_1_and_64_parts(self):
        self.check(Blend.point(0))
        self.check(Blend.of_run(Run(NINES, 4, NINES)))
        self.check(Blend([(Ratio(1, 64), Run(at, 3, 5)) for at in range(64)]))
        self.check(Blend([(Ratio(at + 1, 2080), Run(BIG + at, 1, BIG)) for at in range(64)][::-1]))

    def test_numbers_of_60_and_61_figures(self):
        for many, part in ((10 ** 59, None), (NINES, None), (NINES + 1, 0), (10 ** 61, 0)):
            blend = Blend([(Ratio(1, many), Run.point(0)), (Ratio(many - 1, many), Run.point(1))])
            if part is None:
                self.check(blend)
            else:
                self.assertEqual(refused(read_blend, write_blend(blend)), ("BadText", part))
        blend = Blend([(Ratio(1, 2), Run.point(NINES)), (Ratio(1, 2), Run.point(NINES + 1))])
        self.assertEqual(refused(read_blend, write_blend(blend)), ("BadText", 1))

    def test_the_first_bad_piece(self):
        good = ["1/4*0:1:1", "1/4*0:1:2", "1/4*3:2:2", "1/4*0:2:2"]
        self.assertEqual(len(read_blend(" + ".join(good))), 4)
        bad = ("", "1/4", "0:1:1", "1/4*", "*0:1:1", "1/4*0:1:1:1", "1/4*1/4*0:1:1", "0*9:1:1", "-1/4*9:1:1",
               "-0*9:1:1", "2/8*9:1:1", "1/4*9:2:1", "1/4*9:1:0", "1/4*-1:1:1", "1/4 *9:1:1", "1/4* 9:1:1",
               " 1/4*9:1:1", "1/4*9:1:1 ", "1/4*9:1:1\n",
               "+ 1/4*9:1:1",
               "1/4**9:1:1", "1/4*9:1:1+1/4*8:1:1", "1/4*9:1:1\t+ 1/4*8:1:1", "1/4*09:1:1", "0.25*9:1:1", "a",
               "1/4*9:5:2", "1/4*9:0:2")
        for at, piece in product(range(4), bad):
            pieces = good[:at] + [piece] + good[at + 1:]
            self.assertEqual(refused(read_blend, " + ".join(pieces)), ("BadText", at), pieces)
            # The first one counts, also where others and the sum are wrong.
            self.assertEqual(refused(read_blend, " + ".join(pieces + ["b"])), ("BadText", at))

    def test_a_run_twice(self):
        for text, at in (("1/2*0:1:1 + 1/2*0:1:1", 1), ("1/4*0:1:1 + 1/4*1:2:3 + 1/2*0:1:1", 2),
                         ("1/4*0:1:1 + 1/4*1:2:3 + 1/4*1:2:3 + 1/4*0:1:1", 2),
                         ("1/3*5:1:1 + 1/3*5:1:1 + x", 1), ("1*5:1:1 + 1*5:1:1", 1)):
            self.assertEqual(refused(read_blend, text), ("BadText", at))
        # The same strengths in other runs are no repetition.
        self.assertEqual(len(read_blend("1/2*0:1:2 + 1/4*0:1:1 + 1/4*1:1:1")), 3)

    def test_the_65th_piece(self):
        pieces = [f"1/64*{at}:1:1" for at in range(64)]
        self.assertEqual(len(read_blend(" + ".join(pieces))), 64)
        for more in ("1/64*64:1:1", "1/64*0:1:1", "x", ""):
            self.assertEqual(refused(read_blend, " + ".join(pieces + [more])), ("BadText", 64))
            self.assertEqual(refused(read_blend, " + ".join(pieces + [more] * 40)), ("BadText", 64))
            self.assertEqual(refused(read_blend, " + ".join(pieces[:63] + ["x"] + [more])), ("BadText", 63))
            self.assertEqual(refused(read_blend, " + ".join(["x"] + pieces + [more])), ("BadText", 0))
        even = [f"1/65*{at}:1:1" for at in range(65)]
        self.assertEqual(refused(read_blend, " + ".join(even)), ("BadText", 64))
        self.assertEqual(refused(read_blend, " + ".join(even[:64])), ("BadText", 64))

    def test_a_wrong_sum(self):
        for text, pieces in (("1/2*0:1:1", 1), ("2*0:1:1", 1), ("1/2*0:1:1 + 1/3*1:1:1", 2), ("1/2*0:1:1 + 2/3*1:1:1", 2),
                             ("1*0:1:1 + 1*1:1:1", 2), ("1/4*0:1:1 + 1/4*1:1:1 + 1/4*2:1:1", 3)):
            self.assertEqual(refused(read_blend, text), ("BadText", pieces))

    def test_empty_and_separators(self):
        for text, at in (("", 0), (" + ", 0), (" ", 0), ("+", 0), (" + 1*0:1:1", 0), ("1*0:1:1 + ", 1),
                         ("1*0:1:1 +  + 1*1:1:1", 1),
                         ("1/2*0:1:1  + 1/2*1:1:1", 0), ("1/2*0:1:1 +  1/2*1:1:1", 1), ("1/2*0:1:1 + + 1/2*1:1:1", 1),
                         ("1*0:1:1 ", 0), ("1/2*0:1:1 + 1/2*1:1:1 + ", 2),
                         ("1/2*0:1:1+1/2*1:1:1", 0), ("1/2*0:1:1 +\u00a01/2*1:1:1", 0),
                         ("1*0:1:1\n", 0), ("1/2*0:1:1 +\n1/2*1:1:1", 0), ("1/2*0:1:1 + 1/2*1:1:1 ", 1),
                         (" 1/2*0:1:1 + 1/2*1:1:1", 0)):
            self.assertEqual(refused(read_blend, text), ("BadText", at), text)

    def test_shares_with_great_unders(self):
        unders = [10 ** 59 + at for at in range(1, 64)]
        parts = [(Ratio(1, under), Run.point(at)) for at, under in enumerate(unders)]
        text = " + ".join(f"{share}*{at}:1:1" for at, (share, _) in enumerate(parts))
        self.assertEqual(refused(read_blend, text), ("BadText", 63))


class Charts(unittest.TestCase):
    def test_widths(self):
        blend = Blend([(Ratio(1, 3), Run.point(0)), (Ratio(2, 3), Run(1, 2, 4))])
        self.assertEqual(chart(blend, 0, 3), ["       0              1/3",
                                              "       1              1/6",
                                              "       2                0",
                                              "       3              1/6"])
        for row in chart(blend, 0, 40):
            self.assertEqual(len(row), 25)
        self.assertEqual(chart(Blend.point(5), 5, 5), ["       5                1"])

    def test_against_the_chances(self):
        for blend in small_blends():
            for low, high in ((0, blend.greatest + 2), (2, 5), (7, 7)):
                expected = [str(k).rjust(8) + " " + str(ratio(walked_chance(blend, k))).rjust(16) for k in range(low, high + 1)]
                self.assertEqual(chart(blend, low, high), expected)

    def test_longer_ones_are_not_cut(self):
        share = Ratio(1, 10 ** 15)
        blend = Blend([(share, Run.point(10 ** 8)), (1 - share, Run.point(10 ** 7))])
        self.assertEqual(chart(blend, 10 ** 8, 10 ** 8), ["100000000 1/1000000000000000"])
        self.assertEqual(chart(blend, 10 ** 7, 10 ** 7), ["10000000 999999999999999/1000000000000000"])
        self.assertEqual(chart(blend, 10 ** 8 - 1, 10 ** 8 - 1), ["99999999" + " " * 16 + "0"])
        self.assertEqual(chart(Blend.of_run(Run(0, 1, 10 ** 13)), 9, 9), ["       9" + " " + "1/10000000000000"])
        self.assertEqual(chart(Blend.of_run(Run(BIG, 2, BIG)), BIG, BIG + 1), [f"{BIG} 1/{BIG}", f"{BIG + 1} " + " " * 15 + "0"])

    def test_low_above_high(self):
        blend = Blend.point(3)
        for low, high in ((1, 0), (0, -1), (5, 3), (BIG, 0), (0, -BIG), (2000, 1)):
            self.assertEqual(chart(blend, low, high), [])

    def test_refusals_in_their_order(self):
        blend = Blend.point(3)
        for low in (-1, -BIG):
            for high in (-BIG, low - 1, low, 5, BIG):
                self.assertEqual(refused(chart, blend, low, high), ("BadNumber", "low", low))
        self.assertEqual(len(chart(blend, 0, 999)), 1000)
        self.assertEqual(len(chart(blend, BIG, BIG + 999)), 1000)
        for low, high in ((0, 1000), (7, 1007), (0, BIG), (BIG, BIG + 1000)):
            self.assertEqual(refused(chart, blend, low, high), ("TooMany", "rows", 1000))


if __name__ == "__main__":
    unittest.main()
