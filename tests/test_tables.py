import unittest
from collections import Counter
from itertools import product
from math import lcm

from fieldlots.blends import Blend
from fieldlots.errors import NoPlace
from fieldlots.grounds import Ground
from fieldlots.plans import Plan
from fieldlots.ratio import Ratio
from fieldlots.runs import Run
from fieldlots.sums import solve
from fieldlots.tables import Table
from tests.helpers import BIG, TIES, fraction, listed, refused, small_runs


def parted(*parts):
    """A blend and a number of fields: each part gets so many of the fields."""
    fields = sum(many for many, _ in parts)
    return Blend([(Ratio(many, fields), run) for many, run in parts]), fields


def fields_of(blend, fields):
    """For each field, the run of its part, in the order of the parts."""
    return [run for share, run in blend.parts for _ in range(int(fraction(share) * fields))]


SMALL = (
    parted((1, Run.point(0))),
    parted((1, Run.point(7))),
    parted((5, Run.point(7))),
    parted((2, Run(0, 1, 2))),
    parted((4, Run(3, 4, 2))),
    parted((2, Run(0, 1, 3))),
    parted((3, Run(1, 2, 3))),
    parted((5, Run(0, 3, 5))),
    parted((7, Run(2, 4, 9))),
    parted((2, Run(5, 2, 4)), (3, Run(0, 1, 3)), (1, Run.point(2))),
    parted((1, Run.point(2)), (6, Run(0, 4, 6)), (9, Run(1, 3, 7)), (4, Run(0, 1, 2))),
    parted((3, Run(0, 1, 3)), (3, Run(0, 1, 5)), (3, Run(0, 1, 7))),
    parted((30, Run(0, 2, 8)), (29, Run(4, 1, 11)), (1, Run.point(0))),
)


class Rows(unittest.TestCase):
    def check_rows(self, table, blend, fields, places):
        runs = fields_of(blend, fields)
        for at in places:
            row = table[at]
            self.assertIsInstance(row, tuple)
            self.assertEqual(len(row), fields)
            self.assertEqual(sum(row), table.forces)
            for k, run in zip(row, runs):
                self.assertIs(type(k), int)
                self.assertIn(k, run)

    def check(self, blend, fields):
        table = Table(blend, fields)
        self.assertIs(type(table.height), int)
        self.assertIs(type(table.forces), int)
        self.assertEqual(table.height, lcm(*[run.count for _, run in blend.parts]))
        self.assertEqual(table.forces, fields * blend.mean)
        self.assertEqual(len(table), fields)
        self.check_rows(table, blend, fields, range(table.height))
        return table

    def check_turns(self, table, blend, fields):
        for field, run in enumerate(fields_of(blend, fields)):
            column = [table[at][field] for at in range(table.height)]
            for at in range(table.height - run.count + 1):
                self.assertEqual(sorted(column[at:at + run.count]), listed(run))
            for at in range(table.height - run.count):
                self.assertEqual(column[at], column[at + run.count])

    def test_small_tables(self):
        for blend, fields in SMALL:
            table = self.check(blend, fields)
            self.check_turns(table, blend, fields)

    def test_runs_of_all_steps_and_small_counts(self):
        for run, many in product(small_runs((0, 3), (1, 2, 3, 4, 5, 6, 7, 8)), range(1, 8)):
            blend, fields = parted((many, run))
            if Table.fits(blend, fields):
                self.check_turns(self.check(blend, fields), blend, fields)

    def test_like_fields_in_two_parts(self):
        # One run twice is one part.
        blend = Blend([(Ratio(1, 2), Run(0, 1, 4)), (Ratio(1, 4), Run.point(1)), (Ratio(1, 4), Run(0, 1, 4))])
        self.check_turns(self.check(blend, 8), blend, 8)

    def test_tables_of_verdicts(self):
        tried = 0
        for one, two, fields, ties in product(range(0, 7), range(0, 7), (1, 2, 4, 6, 12, 60), TIES):
            verdict = solve(Ratio(one, 2), Ratio(two, 2), ties=ties)
            for blend in (verdict.one, verdict.two):
                if Table.fits(blend, fields):
                    self.check(blend, fields)
                    tried += 1
        self.assertGreater(tried, 100)

    def test_counts_of_30_figures(self):
        odd = BIG + 1
        blend, fields = parted((3, Run(5, 3, odd)), (2, Run(0, 4, BIG)), (1, Run.point(BIG)), (5, Run(1, 2, odd + 2)))
        table = Table(blend, fields)
        self.assertEqual(table.height, lcm(odd, BIG, odd + 2))
        self.assertEqual(table.forces, fields * blend.mean)
        runs = fields_of(blend, fields)
        middle = table.height // 2
        near = [0, 1, 2, middle - 1, middle, middle + 1, odd // 2, odd // 2 + 1, odd - 1, odd, BIG, table.height - 1]
        self.check_rows(table, blend, fields, near)
        for field, run in enumerate(runs):
            for at in near:
                if at + run.count < table.height:
                    self.assertEqual(table[at][field], table[at + run.count][field])
            walk = [table[at][field] for at in range(50)] + [table[middle + at][field] for at in range(50)]
            self.assertEqual(len(set(walk[:50])), 50 if run.count > 1 else 1)
            self.assertEqual(len(set(walk[50:])), 50 if run.count > 1 else 1)

    def test_rows_that_do_not_exist(self):
        for blend, fields in SMALL:
            table = Table(blend, fields)
            for at in (-1, -table.height, table.height, table.height + 1, BIG):
                with self.assertRaises(NoPlace):
                    table[at]

    def test_tables_are_not_iterated_over(self):
        self.assertRaises(TypeError, list, Table(Blend.point(1), 3))
        for name in "__len__ __getitem__ where plan fits".split():
            self.assertIn(name, Table.__dict__)
        self.assertIsInstance(Table.__dict__["fits"], staticmethod)

    def test_the_blend_stays(self):
        blend, fields = SMALL[-1]
        parts = list(blend.parts)
        table = Table(blend, fields)
        table.where(3, 4)
        table[5]
        self.assertEqual(blend.parts, parts)


class Places(unittest.TestCase):
    def test_against_a_search(self):
        for blend, fields in SMALL:
            table = Table(blend, fields)
            for field in range(fields):
                column = [table[at][field] for at in range(table.height)]
                for strength in range(blend.greatest + 6):
                    found = table.where(field, strength)
                    if strength in column:
                        self.assertIs(type(found), int)
                        self.assertEqual(found, column.index(strength))
                    else:
                        self.assertIsNone(found)

    def test_strengths_that_a_field_has_not(self):
        blend, fields = parted((2, Run(10, 3, 4)), (3, Run(2, 2, 5)), (1, Run.point(4)))
        table = Table(blend, fields)
        for field, run in enumerate(fields_of(blend, fields)):
            for strength in range(-3, 30):
                self.assertEqual(table.where(field, strength) is None, strength not in listed(run))
            self.assertIsNone(table.where(field, -BIG))
            self.assertIsNone(table.where(field, BIG))

    def test_counts_of_30_figures(self):
        for run, many in product((Run(7, 4, BIG), Run(0, 1, BIG + 1), Run(BIG, 3, BIG + 7)), (2, 3, 4, 5)):
            blend, fields = parted((many, run))
            if not Table.fits(blend, fields):
                continue
            table = Table(blend, fields)
            half = run.count // 2
            for field, index in product(range(fields), (0, 1, 2, half - 1, half, half + 1, run.count - 2, run.count - 1)):
                at = table.where(field, run[index])
                self.assertTrue(0 <= at < run.count)
                self.assertEqual(table[at][field], run[index])
            for field in range(fields):
                for strength in (run.first - 1, run.last + 1, run.last + run.step, run.first - run.step, 0 - BIG):
                    self.assertIsNone(table.where(field, strength))
                if run.step > 1:
                    self.assertIsNone(table.where(field, run[half] + 1))
                    self.assertIsNone(table.where(field, run[half] - 1))

    def test_fields_that_do_not_exist(self):
        for blend, fields in SMALL:
            table = Table(blend, fields)
            for field in (-1, -fields, fields, fields + 1, BIG):
                self.assertRaises(NoPlace, table.where, field, blend.parts[0][1].first)
                self.assertRaises(NoPlace, table.where, field, -1)


class Fitting(unittest.TestCase):
    def assert_misfit(self, blend, fields, part):
        self.assertIs(Table.fits(blend, fields), False)
        self.assertEqual(refused(Table, blend, fields), ("NotTiled", part))

    def test_each_kind_of_misfit_at_each_place(self):
        good = [(2, Run(0, 1, 4)), (3, Run(0, 1, 5)), (1, Run.point(9))]
        for bad in ((1, Run(0, 1, 2)), (1, Run(0, 1, 3)), (3, Run(0, 1, 2)), (5, Run(1, 2, 8)), (1, Run(0, 1, BIG))):
            for at in range(4):
                parts = good[:at] + [bad] + good[at:]
                blend, fields = parted(*parts)
                self.assert_misfit(blend, fields, at)
                self.assertIs(Table.fits(blend, 2 * fields), True)
                self.assertEqual(len(Table(blend, 2 * fields)), 2 * fields)

    def test_the_first_of_several(self):
        good, bad, worse = (2, Run(0, 1, 4)), (1, Run(0, 1, 2)), (3, Run(0, 1, 6))
        for parts in product((good, bad, worse), repeat=3):
            runs = [run + 20 * at for at, (_, run) in enumerate(parts)]
            blend, fields = parted(*[(many, run) for (many, _), run in zip(parts, runs)])
            misfits = [at for at, part in enumerate(parts) if part != good]
            if misfits:
                self.assert_misfit(blend, fields, misfits[0])
            else:
                self.assertIs(Table.fits(blend, fields), True)

    def test_fields_that_are_not_whole(self):
        for at in range(3):
            shares = [Ratio(1, 4), Ratio(1, 4), Ratio(1, 4)]
            shares[at] = Ratio(1, 2)
            blend = Blend([(share, Run.point(3 * k)) for k, share in enumerate(shares)])
            for fields in range(1, 13):
                if fields % 4 == 0:
                    self.assertIs(Table.fits(blend, fields), True)
                else:
                    self.assert_misfit(blend, fields, 1 if at == 0 and fields % 2 == 0 else 0)
        last = Blend([(Ratio(2, 6), Run.point(0)), (Ratio(3, 6), Run.point(1)), (Ratio(1, 6), Run.point(2))])
        self.assert_misfit(last, 3, 1)
        self.assert_misfit(last, 2, 0)
        blend = Blend([(Ratio(1, 2), Run.point(0)), (Ratio(1, 4), Run.point(1)), (Ratio(1, 4), Run(2, 1, 2))])
        self.assert_misfit(blend, 2, 1)
        self.assert_misfit(blend, 4, 2)
        self.assertIs(Table.fits(blend, 8), True)

    def test_numbers_of_fields_and_strengths(self):
        for many, count in product(range(1, 9), range(1, 10)):
            blend, fields = parted((many, Run(4, 3, count)))
            fits = count == 1 or many > 1 and many * (count - 1) % 2 == 0
            self.assertIs(Table.fits(blend, fields), fits)
            if not fits:
                self.assert_misfit(blend, fields, 0)

    def test_more_fields_than_a_table_has(self):
        blend = Blend([(Ratio(1, 2), Run(0, 1, BIG)), (Ratio(1, 2), Run.point(1))])
        self.assertIs(Table.fits(blend, 62), False)
        self.assertIs(Table.fits(blend, 64), True)
        self.assertIs(Table.fits(blend, 4 * BIG), True)
        self.assertIs(Table.fits(blend, 4 * BIG + 1), False)
        self.assertIs(Table.fits(Blend.point(1), 61), True)

    def test_refusals_in_their_order(self):
        bad = Blend.of_run(Run(0, 1, 2))
        for fields in (0, -1, -BIG):
            self.assertEqual(refused(Table, bad, fields), ("BadNumber", "fields", fields))
        for fields in (61, 63, BIG):
            self.assertEqual(refused(Table, bad, fields), ("TooMany", "fields", 60))
        self.assertEqual(len(Table(bad, 60)), 60)
        self.assert_misfit(bad, 59, 0)
        self.assert_misfit(bad, 1, 0)
        self.assertEqual(len(Table(Blend.point(1), 1)), 1)


class Plans(unittest.TestCase):
    def check(self, blend, fields):
        table = Table(blend, fields)
        plan = table.plan()
        self.assertIsInstance(plan, Plan)
        self.assertEqual(plan.ground, Ground.plain(fields))
        self.assertEqual(plan.forces, table.forces)
        dealt = Counter(tuple(sorted(table[at], reverse=True)) for at in range(table.height))
        self.assertEqual(len(plan), len(dealt))
        for spread, number in dealt.items():
            self.assertEqual(plan[(spread,)], Ratio(number, table.height))
        margin, = plan.margins()
        for k in range(blend.greatest + 2):
            self.assertEqual(margin[k], blend[k])
        return plan

    def test_against_the_rows(self):
        tried = 0
        for blend, fields in SMALL:
            table = Table(blend, fields)
            if table.height <= 64 and fields <= 12 and table.forces <= 40:
                self.check(blend, fields)
                tried += 1
        self.assertGreater(tried, 5)

    def assert_many(self, name, most, *parts):
        blend, fields = parted(*parts)
        self.assertEqual(refused(Table(blend, fields).plan), ("TooMany", name, most))

    def test_refusals_in_their_order(self):
        self.check(*parted((2, Run(0, 1, 7)), (2, Run(0, 1, 9))))
        self.assert_many("rows", 64, (2, Run(0, 1, 65)))
        self.assert_many("rows", 64, (2, Run(0, 1, 65)), (11, Run.point(0)))
        self.assert_many("rows", 64, (3, Run(0, 4, BIG + 1)), (50, Run.point(BIG)))
        self.assert_many("rows", 64, (2, Run(0, 1, 5)), (2, Run(0, 1, 13)))
        self.assert_many("forces", 40, (2, Run(0, 1, 64)))
        self.assert_many("fields", 12, (2, Run(0, 1, 64)), (11, Run.point(0)))
        self.assert_many("fields", 12, (13, Run.point(0)))
        self.assert_many("fields", 12, (13, Run.point(BIG)))
        self.check(*parted((12, Run.point(0))))
        self.check(*parted((12, Run.point(3))))
        self.check(*parted((2, Run(0, 1, 41))))
        self.check(*parted((2, Run(0, 1, 41)), (10, Run.point(0))))
        self.assert_many("forces", 40, (2, Run(0, 1, 41)), (1, Run.point(1)))
        self.assert_many("forces", 40, (2, Run(0, 1, 42)))
        self.assert_many("forces", 40, (1, Run.point(BIG)))

    def test_64_and_65_rows(self):
        # 64 rows need a run of 64 strengths, which is beyond 40 forces; that its error comes shows that 64 rows pass.
        self.assert_many("forces", 40, (2, Run(0, 1, 64)))
        self.assertEqual(Table(*parted((2, Run(0, 1, 7)), (2, Run(0, 1, 9)))).height, 63)
        self.assertEqual(Table(*parted((2, Run(0, 1, 5)), (2, Run(0, 1, 13)))).height, 65)
        self.check(*parted((2, Run(0, 1, 4)), (2, Run(0, 1, 15))))
        self.assert_many("rows", 64, (2, Run(0, 1, 2)), (2, Run(0, 1, 3)), (2, Run(0, 1, 11)))


if __name__ == "__main__":
    unittest.main()
