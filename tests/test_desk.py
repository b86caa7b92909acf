import unittest
from itertools import permutations, product

from fieldlots.answers import best_answer
from fieldlots.blends import Blend, meet
from fieldlots.breach import first_breach
from fieldlots.costs import solve_costs
from fieldlots.desk import Desk
from fieldlots.lines import Line
from fieldlots.making import make
from fieldlots.notation import write_blend
from fieldlots.ratio import Ratio
from fieldlots.runs import Run
from fieldlots.sums import solve
from tests.helpers import BIG, number, refused

WORDS = (("none", 0), ("one", 1), ("two", -1))
FLAT, HIGH = Blend.of_run(Run(0, 1, 5)), Blend([(Ratio(1, 3), Run.point(0)), (Ratio(2, 3), Run(1, 2, 4))])
SETTING = ["lot a 1*0:1:5", "lot b 1/3*0:1:1 + 2/3*1:2:4", "lot c 1*2:1:1", "drop c"]


def set_desk():
    desk = Desk()
    desk["a"] = FLAT
    desk["b"] = HIGH
    desk["c"] = Blend.point(2)
    desk.drop("c")
    return desk


def shown(desk):
    return [(name, write_blend(desk[name])) for name in desk]


def history(desk):
    """What the desk shows, and what it shows behind each undo; it is used up by this."""
    states = [shown(desk)]
    while refused(desk.undo) is None:
        states.append(shown(desk))
    return states


BEFORE = history(set_desk())


class Names(unittest.TestCase):
    def test_an_empty_desk(self):
        desk = Desk()
        self.assertEqual((len(desk), list(desk)), (0, []))
        self.assertNotIn("a", desk)
        self.assertEqual(refused(desk.undo), ("NothingLeft",))
        self.assertEqual(refused(desk.drop, "a"), ("NoPlace",))

    def get(self, desk, name):
        return refused(lambda: desk[name])

    def test_setting_and_getting(self):
        desk = Desk()
        for at, name in enumerate(("b", "zz", "a", "abcdefghijkl", "mnopqrstuvwx", "yz")):
            self.assertNotIn(name, desk)
            self.assertEqual(self.get(desk, name), ("NoPlace",))
            desk[name] = Blend.point(at)
            self.assertIn(name, desk)
            self.assertEqual(desk[name], Blend.point(at))
            self.assertEqual(len(desk), at + 1)
        self.assertEqual(list(desk), ["b", "zz", "a", "abcdefghijkl", "mnopqrstuvwx", "yz"])

    def test_set_again_keeps_the_place(self):
        desk = set_desk()
        desk["a"] = Blend.point(9)
        self.assertEqual(list(desk), ["a", "b"])
        self.assertEqual((desk["a"], desk["b"]), (Blend.point(9), HIGH))
        desk["d"] = FLAT
        desk["b"] = FLAT
        self.assertEqual(list(desk), ["a", "b", "d"])
        # A name that was dropped is a new one.
        desk.drop("a")
        desk["a"] = FLAT
        self.assertEqual(list(desk), ["b", "d", "a"])

    def test_bad_names(self):
        desk = set_desk()
        for name in ("", "abcdefghijklm", "A", "aB", "a1", "1", "a b", " a", "a ", "a\n", "a_b", "a-b", "_", "\u00e9",
                     "a\u0131", "\u00aa", "\uff41", "a" * 13, "a" * 1000):
            self.assertEqual(refused(desk.__setitem__, name, FLAT), ("BadText", 0))
            self.assertNotIn(name, desk)
            self.assertEqual(self.get(desk, name), ("NoPlace",))
            self.assertEqual(refused(desk.drop, name), ("NoPlace",))
        self.assertEqual(history(desk), BEFORE)

    def test_names_of_1_and_12_letters(self):
        desk = Desk()
        for name in ["abcdefghijklmnopqrstuvwxyz"[at] for at in range(26)] + ["a" * 12, "z" * 12, "none", "lot"]:
            desk[name] = FLAT
            self.assertIn(name, desk)

    def test_drop(self):
        desk = set_desk()
        self.assertIsNone(desk.drop("a"))
        self.assertEqual(shown(desk), [("b", write_blend(HIGH))])
        self.assertEqual(refused(desk.drop, "a"), ("NoPlace",))
        self.assertEqual(refused(desk.drop, "c"), ("NoPlace",))
        self.assertIsNone(desk.drop("b"))
        self.assertEqual(len(desk), 0)

    def test_methods_stand_in_the_class(self):
        for name in "drop undo run __getitem__ __setitem__ __len__ __contains__ __iter__".split():
            self.assertIn(name, Desk.__dict__)

    def test_desks_are_apart(self):
        desk, other = Desk(), Desk()
        desk["a"] = FLAT
        self.assertEqual((len(other), refused(other.undo)), (0, ("NothingLeft",)))


class Changes(unittest.TestCase):
    def check(self, steps):
        """The steps one by one, then all of them taken back."""
        desk = Desk()
        states = [shown(desk)]
        for step, name, blend in steps:
            if step == "set":
                desk[name] = blend
            elif refused(desk.drop, name) is not None:
                continue
            states.append(shown(desk))
        self.assertEqual(history(desk), states[::-1])
        self.assertEqual(refused(desk.undo), ("NothingLeft",))
        self.assertEqual(len(desk), 0)

    def test_all_short_ways(self):
        steps = [("set", "a", FLAT), ("set", "a", HIGH), ("set", "b", FLAT), ("set", "c", FLAT),
                 ("drop", "a", None), ("drop", "b", None)]
        for many in range(1, 5):
            for way in product(steps, repeat=many):
                self.check(way)

    def test_drops_in_every_order(self):
        setting = [("set", name, Blend.point(at)) for at, name in enumerate("abcd")]
        for order in permutations("abcd"):
            self.check(setting + [("drop", name, None) for name in order])
            self.check(setting + [("drop", name, None) for name in order] + setting[::-1])

    def test_a_drop_taken_back_gives_back_the_place(self):
        for name in "abcd":
            desk = Desk()
            for at, other in enumerate("abcd"):
                desk[other] = Blend.point(at)
            before = shown(desk)
            desk.drop(name)
            self.assertEqual(list(desk), [other for other in "abcd" if other != name])
            self.assertIsNone(desk.undo())
            self.assertEqual(shown(desk), before)
            self.assertEqual(list(desk), ["a", "b", "c", "d"])

    def test_changes_behind_an_undo(self):
        desk = set_desk()
        desk.undo()
        self.assertEqual(list(desk), ["a", "b", "c"])
        desk["b"] = FLAT
        desk.drop("a")
        desk.undo()
        desk.undo()
        # What was taken back before is not taken back again.
        self.assertEqual(shown(desk), BEFORE[1])
        self.assertEqual(history(desk), BEFORE[1:])

    def test_setting_the_same_blend_again_is_a_change(self):
        desk = set_desk()
        desk["a"] = FLAT
        self.assertEqual(history(desk), [BEFORE[0]] + BEFORE)

    def test_many_names(self):
        desk = Desk()
        names = [one + other for one, other in product("abcdefghijklmnopqrstuvwxyz", repeat=2)]
        for at, name in enumerate(names):
            desk[name] = Blend.point(at)
        desk.run(["drop aa", "drop mm", "lot mm 1*0:1:1"])
        for _ in range(3):
            desk.undo()
        self.assertEqual(list(desk), names)
        self.assertEqual(desk["mm"], Blend.point(names.index("mm")))


# Words that fit nowhere, and for each kind of word those that do not fit there.
NEVER = ("", "\u00e9", "a\t", "1\n", "*")
BAD = {
    "new": NEVER + ("A", "aB", "a1", "abcdefghijklm", "1", "a-b"),
    "name": NEVER + ("A", "c", "zz", "1", "aa"),
    "number": NEVER + ("x", "01", "1/1", "2/4", "1/0", "+1", "-0", "1.5", "1_0", "1" + "0" * 60, "none", "-"),
    "whole": NEVER + ("x", "01", "1/2", "-1", "-0", "4/1", "1" + "0" * 60),
    "ties": NEVER + ("None", "0", "1", "three", "ones", "on", "ONE", "none\n"),
    "blend": NEVER + ("1*0:1:1 +", "1*0:1", "1/2*0:1:1", "2*0:1:1", "0:1:1", "a", "1*0:2:1", "-1*0:1:1", "1*0:1:1\n",
                      "1/2*0:1:1 + 1/2*0:1:1", "1*0:1:1 1*0:1:1", "1/2*0:1:1 +  1/2*1:1:1",
                      "1/2*0:1:1  + 1/2*1:1:1", "1*0:1:1 ", " 1*0:1:1", "1*0:1:1\t"),
    "share": NEVER + ("x", "01", "-1/2", "3/2", "2", "-1", "1/1"),
    "mean": NEVER + ("x", "01", "-1/2", "-1", "1/1"),
    "cost": NEVER + ("x", "01", "-1/2", "-1", "0", "1/1"),
    "fields": NEVER + ("x", "0", "-1", "9", "1/2", "01", "3/1", str(BIG)),
}
LINES = (
    ("lot d 1/2*0:1:1 + 1/2*3:4:5", ("new", "blend")),
    ("lot a 1*7:1:1", ("new", "blend")),
    ("mix d 1/3 a b", ("new", "share", "name", "name")),
    ("mix b 1/3 b a", ("new", "share", "name", "name")),
    ("drop a", ("name",)),
    ("undo", ()),
    ("sums 2 1/3 none", ("mean", "mean", "ties")),
    ("costs 2/5 3/8 two", ("cost", "cost", "ties")),
    ("best b 2 one", ("name", "mean", "ties")),
    ("breach b 0 -1/9 none", ("name", "number", "number", "ties")),
    ("meet a b two", ("name", "name", "ties")),
    ("make a 3", ("name", "fields")),
)


def words_of(line, kinds):
    """The words of a line, with a written blend as one of them."""
    return line.split(" ", len(kinds))


class Commands(unittest.TestCase):
    def test_the_example(self):
        rows = Desk().run(["lot a 1/3*0:1:1 + 2/3*1:2:4", "best a 2 none", "breach a 0 -1/9 none"])
        self.assertEqual(rows, ["a 1/3*0:1:1 + 2/3*1:2:4", "worth 0", "breach 7"])

    def test_no_lines(self):
        desk = set_desk()
        self.assertEqual(desk.run([]), [])
        self.assertEqual(history(desk), BEFORE)

    def test_lot(self):
        desk = Desk()
        self.assertEqual(desk.run(["lot b 1*0:1:5", "lot a 1/2*1:1:1 + 1/2*0:4:9"]), ["b 1*0:1:5", "a 1/2*1:1:1 + 1/2*0:4:9"])
        self.assertEqual(shown(desk), [("b", "1*0:1:5"), ("a", "1/2*1:1:1 + 1/2*0:4:9")])
        self.assertIsInstance(desk["b"], Blend)
        self.assertEqual(desk.run(["lot b 1*3:1:1"]), ["b 1*3:1:1"])
        self.assertEqual(shown(desk), [("b", "1*3:1:1"), ("a", "1/2*1:1:1 + 1/2*0:4:9")])
        self.assertEqual(desk.run(["lot lot 1*3:1:1", "lot none 1*3:1:1"]), ["lot 1*3:1:1", "none 1*3:1:1"])

    def test_a_written_blend_of_64_parts(self):
        text = " + ".join(f"1/64*{at}:2:3" for at in range(64))
        self.assertEqual(Desk().run([f"lot a {text}"]), [f"a {text}"])

    def test_mix(self):
        desk = set_desk()
        for share in ("0", "1", "1/3", "5/7"):
            mixed = write_blend(FLAT.mixed(number(share), HIGH))
            self.assertEqual(desk.run([f"mix d {share} a b"]), [f"d {mixed}"])
            self.assertEqual(write_blend(desk["d"]), mixed)
            other = write_blend(HIGH.mixed(number(share), FLAT))
            self.assertEqual(desk.run([f"mix d {share} b a"]), [f"d {other}"])
        self.assertEqual(desk.run(["mix a 1/2 a a"]), ["a 1*0:1:5"])
        self.assertEqual(list(desk), ["a", "b", "d"])

    def test_drop_and_undo(self):
        desk = set_desk()
        rows = desk.run(["drop a", "undo", "drop b", "drop a", "undo"])
        self.assertEqual(rows, ["a dropped", "undone", "b dropped", "a dropped", "undone"])
        self.assertEqual(list(desk), ["a"])
        self.assertEqual(desk.run(["undo"] * 5), ["undone"] * 5)
        self.assertEqual(len(desk), 0)
        self.assertEqual(refused(desk.undo), ("NothingLeft",))

    def test_undo_takes_back_changes_of_either_kind(self):
        desk = Desk()
        desk.run(["lot a 1*0:1:1", "mix b 1/2 a a", "drop a"])
        desk["c"] = FLAT
        self.assertEqual([[name for name, _ in state] for state in history(desk)], [["b", "c"], ["b"], ["a", "b"], ["a"], []])

    def test_sums(self):
        for one, two, (word, ties) in product(("0", "1", "2", "7/3", "10"), ("0", "1/2", "2", "40"), WORDS):
            verdict = solve(number(one), number(two), ties=ties)
            rows = Desk().run([f"sums {one} {two} {word}"])
            self.assertEqual(rows, verdict.rows() + [f"one {write_blend(verdict.one)}", f"two {write_blend(verdict.two)}"])
        self.assertEqual(Desk().run(["sums 2 1 none"]), ["worth 1/2", "means 2 1", "one 1*1:2:2", "two 1/2*0:1:1 + 1/2*0:2:3"])

    def test_costs(self):
        for one, two, (word, ties) in product(("1", "2/5", "3", "1/7"), ("3/8", "1", "9", "1/7"), WORDS):
            verdict = solve_costs(number(one), number(two), ties=ties)
            rows = Desk().run([f"costs {one} {two} {word}"])
            self.assertEqual(rows, verdict.rows() + [f"one {write_blend(verdict.one)}", f"two {write_blend(verdict.two)}"])
            self.assertEqual(rows[2], f"costs {one} {two}")

    def test_best(self):
        desk = set_desk()
        for (name, blend), mean, (word, ties) in product((("a", FLAT), ("b", HIGH)), ("0", "1", "5/2", "9"), WORDS):
            worth = best_answer(blend, number(mean), ties=ties).worth
            self.assertEqual(desk.run([f"best {name} {mean} {word}"]), [f"worth {worth}"])

    def test_breach(self):
        desk = set_desk()
        tried = set()
        lines = list(product(("0", "-1", "2", "-9/2"), ("0", "-1/9", "1", "-5")))
        for (name, blend), (start, slope), (word, ties) in product((("a", FLAT), ("b", HIGH)), lines, WORDS):
            found = first_breach(blend, Line(number(start), number(slope)), ties=ties)
            told = "none" if found is None else str(found)
            self.assertEqual(desk.run([f"breach {name} {start} {slope} {word}"]), [f"breach {told}"])
            tried.add(found)
        self.assertIn(None, tried)
        self.assertIn(0, tried)
        self.assertGreater(len(tried), 3)

    def test_meet(self):
        desk = set_desk()
        for (one, other), (word, ties) in product(product((("a", FLAT), ("b", HIGH)), repeat=2), WORDS):
            gain = meet(one[1], other[1], ties=ties)
            self.assertEqual(desk.run([f"meet {one[0]} {other[0]} {word}"]), [f"gain {gain}"])

    def test_make(self):
        desk = set_desk()
        desk["c"] = Blend.of_weights([(0, 1), (1, 1), (2, 1), (5, 1)])
        self.assertEqual(desk.run(["make c 2"]), ["share 1/4"])
        for fields in (1, 3, 5):
            self.assertEqual(desk.run([f"make a {fields}"]), [f"share {make(FLAT, fields).share}"])

    def test_rows_in_the_order_of_the_lines(self):
        rows = Desk().run(["lot a 1*1:1:1", "sums 0 0 one", "undo", "lot b 1*2:1:1", "meet b b two"])
        self.assertEqual(rows, ["a 1*1:1:1", "worth 1", "means 0 0", "one 1*0:1:1", "two 1*0:1:1", "undone", "b 1*2:1:1",
                                "gain -1"])

    def test_questions_change_nothing(self):
        desk = set_desk()
        desk.run(["sums 2 1 none", "costs 1 1 one", "best a 2 none", "breach a 0 0 none", "meet a b none", "make a 3"])
        self.assertEqual(history(desk), BEFORE)

    def test_the_lines_stay(self):
        lines = list(SETTING)
        rows = Desk().run(lines)
        self.assertEqual(lines, SETTING)
        rows.clear()


class BadLines(unittest.TestCase):
    def bad(self, line):
        """The line alone, and at each place among good ones."""
        desk = set_desk()
        self.assertEqual(refused(desk.run, [line]), ("BadLine", 1), line)
        good = ["lot x 1*1:1:1", "drop x", "undo", "undo"]
        for at in (2, len(good)):
            self.assertEqual(refused(desk.run, good[:at] + [line] + good[at:]), ("BadLine", at + 1), line)
        self.assertEqual(history(desk), BEFORE, line)

    def test_good_lines_are_good(self):
        for line, kinds in LINES:
            self.assertIsNone(refused(set_desk().run, [line]), line)
            self.assertEqual(len(words_of(line, kinds)), len(kinds) + 1)

    def test_each_word_wrong_in_turn(self):
        for line, kinds in LINES:
            words = words_of(line, kinds)
            for at, kind in enumerate(kinds, start=1):
                for wrong in BAD[kind]:
                    self.bad(" ".join(words[:at] + [wrong] + words[at + 1:]))

    def test_the_command_wrong(self):
        for line, kinds in LINES:
            words = words_of(line, kinds)
            near = [words[0] + "s", words[0][:-1], words[0].upper(), words[0].title(), words[0] + "\n"]
            for wrong in near + ["", "x", "run", "plan", "__init__", "*"]:
                self.bad(" ".join([wrong] + words[1:]))

    def test_a_word_less(self):
        for line, kinds in LINES:
            words = words_of(line, kinds)
            for at in range(len(words)):
                self.bad(" ".join(words[:at] + words[at + 1:]))

    def test_a_word_more(self):
        for line, kinds in LINES:
            words = words_of(line, kinds)
            for at, more in product(range(len(words) + 1), ("a", "none", "1", "x")):
                self.bad(" ".join(words[:at] + [more] + words[at:]))

    def test_blanks_and_other_white_space(self):
        for line, kinds in LINES:
            parts = line.split(" ")
            self.bad(line + " ")
            self.bad(" " + line)
            for white in ("\n", "\t", "\r", "\u00a0", "\x0b"):
                self.bad(line + white)
                self.bad(white + line)
            for at in range(1, len(parts)):
                for between in ("  ", "\t", "\n", " \t", "\u00a0"):
                    self.bad(" ".join(parts[:at]) + between + " ".join(parts[at:]))

    def test_empty_lines(self):
        for line in ("", " ", "  ", "\n", "\t"):
            self.bad(line)

    def test_each_error_that_a_command_can_raise(self):
        wide = "lot w 1/1" + "0" * 30 + "*0:1:2" + "0" * 29 + "1 + " + "9" * 30 + "/1" + "0" * 30 + "*0:1:1"
        long = [f"lot {name} " + " + ".join(f"1/40*{at + low}:1:1" for at in range(40)) for name, low in (("x", 0), ("y", 40))]
        for before, line in (
            ([], "lot A 1*0:1:1"), ([], "lot d 1*0:1:0"), ([], "mix D 1/2 a b"), ([], "mix d 1/2 a c"),
            ([], "mix d 1/2 c a"), ([], "mix d 3/2 a b"), ([], "mix d -1 a b"), ([], "drop c"), (["undo"] * 4, "undo"),
            ([], "sums -1 0 none"), ([], "sums 0 -1/2 one"), ([], "costs 0 1 none"), ([], "costs 1 -1 none"),
            ([], "best a -1 none"), ([], "best c 1 none"), ([], "breach c 0 0 none"), ([], "meet c a none"),
            ([], "meet a c none"), ([], "make c 2"), ([], "make a 0"), ([], "make a 9"),
            (["lot d 1/2*0:1:1 + 1/2*1:1:1"], "make d 3"), (["lot d 1*41:1:1"], "make d 1"), (["lot d 1*0:1:13"], "make d 1"),
            (["lot d 1*0:1:4"], "make d 8"), ([wide], "make w 2"), (long, "mix z 1/2 x y"),
        ):
            desk = set_desk()
            self.assertEqual(refused(desk.run, before + [line]), ("BadLine", len(before) + 1), line)
            self.assertEqual(history(desk), BEFORE)

    def test_the_first_bad_line_counts(self):
        for at in range(6):
            lines = ["lot x 1*1:1:1"] * at + ["no"] + ["drop a", "worse"]
            desk = set_desk()
            self.assertEqual(refused(desk.run, lines), ("BadLine", at + 1))
            self.assertEqual(history(desk), BEFORE)

    def test_everything_stays_at_each_place(self):
        lines = ["lot a 1*9:1:1", "undo", "drop b", "lot b 1*4:1:1"] + ["undo"] * 5 + ["lot d 1*1:1:1"]
        self.assertIsNone(refused(set_desk().run, lines))
        for at in range(len(lines) + 1):
            desk = set_desk()
            kept = desk["a"]
            self.assertEqual(refused(desk.run, lines[:at] + ["nothing"] + lines[at:]), ("BadLine", at + 1))
            self.assertIs(desk["a"], kept)
            self.assertEqual(history(desk), BEFORE)

    def test_200_and_201_lines(self):
        desk = set_desk()
        self.assertEqual(len(desk.run(["lot a 1*0:1:1"] * 200)), 200)
        self.assertEqual(len(history(desk)), len(BEFORE) + 200)
        desk = set_desk()
        for lines in (["lot a 1*0:1:1"] * 201, ["bad"] * 201, [""] * 1000):
            self.assertEqual(refused(desk.run, lines), ("TooMany", "lines", 200))
        self.assertEqual(refused(desk.run, ["undo"] + ["bad"] * 199), ("BadLine", 2))
        self.assertEqual(refused(desk.run, ["meet a a none"] * 199 + ["bad"]), ("BadLine", 200))
        self.assertEqual(history(desk), BEFORE)


if __name__ == "__main__":
    unittest.main()
