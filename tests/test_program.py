"""What the document promises over the whole program."""

import doctest
import importlib
import inspect
import subprocess
import sys
import unittest
from pathlib import Path

from fieldlots import errors
from fieldlots.answers import best_over
from fieldlots.blends import Blend
from fieldlots.costs import priced
from fieldlots.desk import Desk
from fieldlots.duels import Duel, duel, shrink
from fieldlots.grounds import Ground
from fieldlots.making import make
from fieldlots.matches import Match, within
from fieldlots.notation import chart
from fieldlots.packing import pack
from fieldlots.plans import Plan
from fieldlots.plays import Book, weigh
from fieldlots.ratio import Ratio
from fieldlots.replies import best_reply
from fieldlots.rounds import Rounds
from fieldlots.rowgame import least_forces, row_game, row_pay
from fieldlots.runs import Run
from fieldlots.tables import Table
from fieldlots.truegame import true_game

ROOT = Path(__file__).resolve().parent.parent
MODULES = sorted(path.stem for path in (ROOT / "fieldlots").glob("*.py") if path.stem != "__init__")

EXAMPLES = """
>>> from fieldlots.answers import best_answer
>>> from fieldlots.blends import Blend
>>> str(best_answer(Blend.point(2), 1).worth)
'1/3'
>>> from fieldlots.notation import write_blend
>>> from fieldlots.sums import solve
>>> verdict = solve(2, 1)
>>> [verdict.rows(), write_blend(verdict.one), write_blend(verdict.two)]
[['worth 1/2', 'means 2 1'], '1*1:2:2', '1/2*0:1:1 + 1/2*0:2:3']
>>> from fieldlots.duels import duel
>>> str(duel([[0, 2], [3, 1]]).worth)
'3/2'
>>> from fieldlots.making import make
>>> str(make(Blend.of_weights([(0, 1), (1, 1), (2, 1), (5, 1)]), 2).share)
'1/4'
>>> from fieldlots.desk import Desk
>>> Desk().run(["lot a 1/3*0:1:1 + 2/3*1:2:4", "best a 2 none", "breach a 0 -1/9 none"])
['a 1/3*0:1:1 + 2/3*1:2:4', 'worth 0', 'breach 7']
"""

# For each module its functions, and its classes with the methods of each, properties with a dot before their names.
INTERFACE = {
    "ratio": (["as_ratio(number)"], {
        "Ratio(top, under=1)": [".whole", "floor()", "ceiling()", "over(number)", "power(n)"]}),
    "runs": (["floor_sum(many, under, step, start)", "pairs_above(one, other)", "pairs_alike(one, other)",
              "run_gain(one, other, *, ties=0)"], {
        "Run(first, step, count)": ["point(k)", "odd(m)", "even(m)", "between(low, high)", ".last", ".mean", "strengths()",
                                    "parted(n)", "below(k)", "above(k)", "chance(k)", "gain(k, *, ties=0)"]}),
    "blends": (["meet(one, other, *, ties=0)"], {
        "Blend(parts)": ["point(k)", "of_run(run)", "of_weights(weights)", ".mean", ".greatest", "mixed(share, other)",
                         "gain(k, *, ties=0)"]}),
    "lines": ([], {"Line(start, slope)": []}),
    "breach": (["first_breach(blend, line, *, ties=0)", "first_difference(one, other)"], {}),
    "answers": (["best_over(fields, total, *, ties=0)", "best_answer(blend, mean, *, ties=0)"], {"Answer": [".lot", ".line"]}),
    "verdicts": ([], {
        "Verdict(worth, *, lots, floors, means, ties=0)": ["lines_hold()", "means_fit()", "holds()", "rows()"],
        "CostVerdict(worth, *, lots, floors, costs, ties=0)": ["rows()"]}),
    "sums": (["solve(mean_one, mean_two, *, ties=0)"], {}),
    "costs": (["solve_costs(cost_one, cost_two, *, ties=0)", "priced(worths, cost_one, cost_two, *, ties=0)"], {"Priced": []}),
    "grounds": (["spread_gain(ground, one, other, *, ties=0)"], {
        "Ground(*classes)": ["plain(fields)", "total(spread)", "spreads(total)", "count_spreads(total)"]}),
    "plans": (["plan_gain(plan, spread, *, ties=0)", "plans_gain(one, other, *, ties=0)"], {
        "Plan(ground, parts)": ["margins()", "mixed(share, other)"]}),
    "replies": (["best_reply(plan, total, *, ties=0)"], {"Reply": ["bound(at, left)"]}),
    "packing": (["pack(rows, limits)"], {"Packing": []}),
    "duels": (["duel(rows)", "shrink(rows)"], {"Duel": []}),
    "truegame": (["true_game(ground, total_one, total_two, *, ties=0)"], {"TrueGame": ["holds()"]}),
    "making": (["make(blend, fields)", "bridge(fields, total_one, total_two, *, ties=0)"], {
        "Making": ["plan()"], "Bridge": [".low", ".high"]}),
    "tables": ([], {"Table(blend, fields)": ["fits(blend, fields)", "where(field, strength)", "plan()"]}),
    "rowgame": (["layouts(total, fields)", "count_layouts(total, fields)", "row_pay(one, other, prizes, *, ties=0)",
                 "least_forces(layout, length, *, ties=0)", "row_game(fields, totals, prizes, *, ties=0)"], {"RowGame": []}),
    "rounds": ([], {"Rounds(worths, one, two, *, ties=0)": ["rest(at, one, two)", "shares(at, one, two)", "pay(at, x, y)"]}),
    "matches": (["within(trial, *plays)"], {
        "Match(rounds)": ["send(one, two)", "left()", "score()", "standing()", "undo()", "redo()", "trial()", "foreseen(*plays)"],
        "Trial": ["__enter__()"]}),
    "plays": (["weigh(parts, seen)"], {"Book(ground, forces)": ["add(spread)", "plan()", "reply(total, *, ties=0)"]}),
    "notation": (["write_ratio(number)", "write_run(run)", "write_blend(blend)", "read_whole(text)", "read_ratio(text)",
                  "read_run(text)", "read_blend(text)", "chart(blend, low, high)"], {}),
    "desk": ([], {"Desk()": ["drop(name)", "undo()", "run(lines)"]}),
}
OPERATORS = {
    ("ratio", "Ratio"): "add radd sub rsub mul rmul floordiv rfloordiv mod rmod pow neg abs bool eq lt le gt ge str",
    ("runs", "Run"): "eq contains getitem add", ("blends", "Blend"): "eq iter getitem contains len add",
    ("lines", "Line"): "call eq add sub neg mul rmul", ("grounds", "Ground"): "eq",
    ("plans", "Plan"): "getitem contains len iter", ("tables", "Table"): "len getitem",
    ("matches", "Trial"): "enter exit", ("plays", "Book"): "iadd len iter",
    ("desk", "Desk"): "getitem setitem len contains iter",
}
STATIC = {("Run", "point"), ("Run", "odd"), ("Run", "even"), ("Run", "between"), ("Blend", "point"), ("Blend", "of_run"),
          ("Blend", "of_weights"), ("Ground", "plain"), ("Table", "fits")}


def parameters(function, bound):
    """The parameters as they are written, without the one for the own object."""
    told = list(inspect.signature(function).parameters.values())
    return str(inspect.Signature(told[1:] if bound else told))


class Interface(unittest.TestCase):
    def test_functions(self):
        for module, (functions, _) in INTERFACE.items():
            found = importlib.import_module(f"fieldlots.{module}")
            for told in functions:
                name = told.split("(")[0]
                function = getattr(found, name)
                self.assertTrue(inspect.isfunction(function), told)
                self.assertEqual(function.__module__, found.__name__, told)
                self.assertEqual(name + parameters(function, False), told)

    def check_member(self, owner, told):
        name = told.strip(".").split("(")[0]
        # It stands in the class itself, not only in one above.
        member = vars(owner)[name]
        if told.startswith("."):
            self.assertIsInstance(member, property, told)
        elif (owner.__name__, name) in STATIC:
            self.assertIsInstance(member, (staticmethod, classmethod), told)
            self.assertEqual(name + parameters(getattr(owner, name), False), told)
        else:
            self.assertEqual(name + parameters(member, True), told)

    def test_classes(self):
        for module, (_, classes) in INTERFACE.items():
            found = importlib.import_module(f"fieldlots.{module}")
            for told, members in classes.items():
                owner = getattr(found, told.split("(")[0])
                self.assertTrue(inspect.isclass(owner), told)
                self.assertEqual(owner.__module__, found.__name__, told)
                if "(" in told:
                    self.assertEqual(owner.__name__ + parameters(owner, False), told)
                for member in members:
                    self.check_member(owner, member)

    def test_operators(self):
        for (module, name), words in OPERATORS.items():
            owner = getattr(importlib.import_module(f"fieldlots.{module}"), name)
            for word in words.split():
                self.assertIn(f"__{word}__", vars(owner))

    def test_class_values(self):
        self.assertEqual((Ground.MOST_FIELDS, Ground.MOST_FORCES), (12, 40))

    def test_examples(self):
        example = doctest.DocTestParser().get_doctest(EXAMPLES, {}, "document", None, 0)
        self.assertEqual(doctest.DocTestRunner().run(example).failed, 0)


class Imports(unittest.TestCase):
    def run_python(self, code):
        done = subprocess.run([sys.executable, "-B", "-W", "error", "-c", code], cwd=ROOT, capture_output=True, text=True)
        self.assertEqual((done.returncode, done.stdout, done.stderr), (0, "", ""), code)

    def test_each_module_is_told(self):
        self.assertEqual(set(INTERFACE) - set(MODULES), set())
        self.assertIn("errors", MODULES)

    def test_each_module_alone(self):
        for module in MODULES:
            self.run_python(f"import fieldlots.{module}")

    def test_all_modules_together(self):
        self.run_python("import fieldlots, " + ", ".join(f"fieldlots.{module}" for module in MODULES))
        self.run_python("import " + ", ".join(f"fieldlots.{module}" for module in MODULES[::-1]))


class Errors(unittest.TestCase):
    def test_no_other_errors(self):
        made = {name for name, value in vars(errors).items() if inspect.isclass(value)}
        expected = ("LotError ZeroUnder BadNumber BadShares NoPlace TooMany Mismatch BadSpread NoLimit NotTiled BadMove "
                    "NothingLeft NeverSeen BadText BadLine")
        self.assertEqual(made, set(expected.split()))
        for module in MODULES:
            for value in vars(importlib.import_module(f"fieldlots.{module}")).values():
                if inspect.isclass(value) and issubclass(value, Exception):
                    self.assertEqual(value.__module__, "fieldlots.errors")

    def test_numbers_are_passed_on_as_they_came(self):
        half = Ratio(-1, 2)
        for call in (lambda: best_over([(1, Blend.point(1))], half), lambda: priced([1], half, 1)):
            with self.assertRaises(errors.BadNumber) as caught:
                call()
            self.assertIs(caught.exception.value, half)


def snapshot(value):
    """Lists and tuples all the way down; other objects by themselves."""
    return [type(value), *map(snapshot, value)] if isinstance(value, (list, tuple)) else value


class ArgumentsStay(unittest.TestCase):
    def check(self, call, *rest):
        before = snapshot(rest)
        found = call(*rest)
        self.assertEqual(snapshot(rest), before)
        return found

    def test_lists(self):
        half, ground = Ratio(1, 2), Ground.plain(2)
        plan = Plan(ground, [(1, ((2, 1),))])
        self.check(Blend, [(half, Run.point(1)), (half, Run.point(1)), (0, Run.point(2))])
        self.check(Blend.of_weights, [(1, 2), (2, 0), (1, 3)])
        self.check(best_over, [(3, Blend.point(2)), (1, Blend.point(1))], 4)
        self.check(priced, [3, 1, 2], 1, half)
        self.check(Plan, ground, [(half, ((2, 1),)), (half, ((2, 1),)), (0, ((3, 0),))])
        self.check(pack, [[1, 2], [2, 1]], [3, 4])
        self.check(duel, [[1, 2], [half, 1]])
        self.check(shrink, [[1, 2], [2, 3], [0, 0]])
        self.check(Rounds, [3, 1, 2], 2, 2)
        self.check(row_pay, (1, 2), (2, 1), [1, 2])
        self.check(row_pay, [1, 2], [2, 1], [1, 2])
        self.check(least_forces, (1, 2), 1)
        self.check(row_game, 2, (1, 2), [1, 2])
        self.check(weigh, [(half, plan), (half, plan)], [((2, 1),), ((2, 1),)])
        self.check(lambda lines: Desk().run(lines), ["lot a 1*0:1:1", "undo"])

    def test_objects(self):
        blend = Blend([(Ratio(1, 3), Run.point(0)), (Ratio(2, 3), Run(1, 1, 3))])
        parts = snapshot(blend.parts)
        make(blend, 3)
        chart(blend, 0, 5)
        Table.fits(blend, 3)
        Table(blend, 6)
        desk = Desk()
        desk["a"] = blend
        desk.run(["mix b 1/2 a a", "lot a 1*0:1:1", "undo", "drop a", "undo"])
        self.assertIs(desk["a"], blend)
        self.assertEqual(snapshot(blend.parts), parts)
        plan = Plan(Ground.plain(2), [(1, ((2, 1),))])
        best_reply(plan, 3)
        weigh([(1, plan)], [((2, 1),)])
        self.assertEqual(plan.parts, [(1, ((2, 1),))])
        rounds = Rounds([1, 2], 1, 1)
        before = (rounds.rest(0, 1, 1), rounds.shares(0, 1, 1))
        game = Match(rounds)
        game.send(1, 1)
        within(game.trial(), (0, 0))
        self.assertEqual((rounds.rest(0, 1, 1), rounds.shares(0, 1, 1)), before)

    def test_lists_that_objects_keep_are_their_own(self):
        ones, twos = [Ratio(1)], [Ratio(1)]
        kept = Duel(Ratio(0), ones, twos)
        ones.clear()
        twos.clear()
        self.assertEqual((kept.shares_one, kept.shares_two), ([1], [1]))
        book = Book(Ground.plain(1), 1)
        book.add(((1,),))
        plan = book.plan()
        book.add(((1,),))
        self.assertEqual(plan.parts, [(1, ((1,),))])

    def test_the_same_answers_again(self):
        ground = Ground.plain(2)
        one, other = true_game(ground, 3, 2), true_game(ground, 3, 2)
        self.assertEqual((one.worth, one.plan_one.parts), (other.worth, other.plan_one.parts))


if __name__ == "__main__":
    unittest.main()
