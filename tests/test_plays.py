import unittest
from fractions import Fraction
from itertools import product

from fieldlots.grounds import Ground
from fieldlots.plans import Plan
from fieldlots.plays import Book, weigh
from fieldlots.ratio import Ratio
from fieldlots.replies import best_reply
from tests.helpers import BIG, TIES, fraction, refused

GROUND = Ground((1, 2), (3, 1))
HIGH, MIXED, FLAT = ((2, 0), (0,)), ((1, 0), (1,)), ((0, 0), (2,))


def book_of(*spreads, ground=GROUND, forces=2):
    book = Book(ground, forces)
    for spread in spreads:
        book.add(spread)
    return book


class Books(unittest.TestCase):
    def test_forces(self):
        for forces in (0, 1, 40):
            book = Book(GROUND, forces)
            self.assertIs(book.ground, GROUND)
            self.assertEqual(book.forces, forces)
            self.assertIs(type(book.forces), int)
        for forces in (-1, 41, BIG, -BIG):
            self.assertEqual(refused(Book, GROUND, forces), ("BadNumber", "forces", forces))

    def test_spreads_in_order(self):
        book = Book(GROUND, 2)
        self.assertEqual((len(book), list(book)), (0, []))
        seen = [FLAT, HIGH, FLAT, FLAT, MIXED, HIGH]
        for at, spread in enumerate(seen):
            self.assertIsNone(book.add(spread))
            self.assertEqual(len(book), at + 1)
            self.assertEqual(list(book), seen[:at + 1])

    def test_added_in_place(self):
        book = kept = Book(GROUND, 2)
        book += FLAT
        book += HIGH
        self.assertIs(book, kept)
        self.assertEqual(list(kept), [FLAT, HIGH])
        book += FLAT
        self.assertEqual(list(book), [FLAT, HIGH, FLAT])

    def by_both(self, book, spread):
        """What add and += say of a spread."""
        def in_place():
            same = book
            same += spread

        found = refused(book.add, spread)
        self.assertEqual(refused(in_place), found)
        return found

    def test_refusals_in_their_order(self):
        book = book_of(FLAT)
        bad = (((0, 1), (1,)), ((0, 0), (1,), (1,)), ((1, 0),), ((1, 0, 0), (1,)), ((3, -1), (0,)), ((40, 1), (0,)), ())
        other = (((1, 0), (0,)), ((2, 1), (0,)), ((40, 0), (0,)))
        for _ in range(2):
            for spread in bad:
                self.assertEqual(self.by_both(book, spread), ("BadSpread",))
            for spread in other:
                self.assertEqual(self.by_both(book, spread), ("Mismatch",))
            self.assertEqual(list(book), [FLAT] * len(book))
            while len(book) < 200:
                book += FLAT
            # Now the book is full, too.
        for spread in (FLAT, HIGH):
            self.assertEqual(self.by_both(book, spread), ("TooMany", "plays", 200))
        self.assertEqual(list(book), [FLAT] * 200)
        self.assertEqual(book.plan().parts, [(1, FLAT)])

    def test_books_of_no_forces(self):
        ground = Ground.plain(3)
        book = book_of(((0, 0, 0),), ground=ground, forces=0)
        self.assertEqual(book.plan().forces, 0)
        self.assertEqual(refused(book.add, ((1, 0, 0),)), ("Mismatch",))

    def test_methods_stand_in_the_class(self):
        for name in "add plan reply __iadd__ __len__ __iter__".split():
            self.assertIn(name, Book.__dict__)


class BookPlans(unittest.TestCase):
    def test_shares_and_order(self):
        plan = book_of(FLAT, HIGH, FLAT, FLAT, MIXED, HIGH).plan()
        self.assertIsInstance(plan, Plan)
        self.assertEqual(plan.ground, GROUND)
        self.assertEqual(plan.parts, [(Ratio(1, 2), FLAT), (Ratio(1, 3), HIGH), (Ratio(1, 6), MIXED)])
        self.assertEqual(book_of(MIXED, FLAT).plan().parts, [(Ratio(1, 2), MIXED), (Ratio(1, 2), FLAT)])

    def test_all_orders(self):
        for seen in product((HIGH, MIXED, FLAT), repeat=4):
            plan = book_of(*seen).plan()
            first = [spread for at, spread in enumerate(seen) if spread not in seen[:at]]
            self.assertEqual([spread for _, spread in plan], first)
            for spread in first:
                self.assertEqual(plan[spread], Ratio(seen.count(spread), 4))

    def test_nothing_seen(self):
        self.assertEqual(refused(Book(GROUND, 2).plan), ("NeverSeen",))
        book = Book(GROUND, 2)
        refused(book.add, ())
        self.assertEqual(refused(book.plan), ("NeverSeen",))

    def test_64_and_65_spreads(self):
        ground = Ground.plain(4)
        some = list(ground.spreads(18))[:65]
        self.assertEqual(len(some), 65)
        book = book_of(*some[:64], *some[:64], *some[:10], ground=ground, forces=18)
        self.assertEqual(len(book.plan()), 64)
        self.assertEqual(book.plan()[some[3]], Ratio(3, 138))
        book += some[64]
        self.assertEqual(refused(book.plan), ("TooMany", "parts", 64))
        self.assertEqual(refused(book.reply, -1), ("TooMany", "parts", 64))
        self.assertEqual(len(book), 139)

    def test_the_plan_stays_as_it_was(self):
        book = book_of(FLAT)
        plan = book.plan()
        book += HIGH
        self.assertEqual(plan.parts, [(1, FLAT)])


class BookReplies(unittest.TestCase):
    def test_against_best_reply(self):
        for seen, total, ties in product(((FLAT,), (FLAT, HIGH, FLAT), (MIXED, HIGH, FLAT, MIXED)), (0, 1, 2, 5, 40), TIES):
            book = book_of(*seen)
            reply, expected = book.reply(total, ties=ties), best_reply(book.plan(), total, ties=ties)
            self.assertEqual((reply.worth, reply.bound(0, total)), (expected.worth, expected.worth))
            self.assertEqual(GROUND.total(reply.spread), total)

    def test_ties_are_those_of_the_side_that_was_seen(self):
        book = book_of(((1,),), ground=Ground.plain(1), forces=1)
        self.assertEqual([book.reply(1, ties=ties).worth for ties in TIES], [-1, 0, 1])
        self.assertEqual(book.reply(1).worth, 0)
        self.assertRaises(TypeError, book.reply, 1, 0)

    def test_refusals_in_their_order(self):
        empty = Book(GROUND, 2)
        for ties in (2, -2, BIG):
            self.assertEqual(refused(empty.reply, -1, ties=ties), ("BadNumber", "ties", ties))
        for total in (-1, 41, 3):
            self.assertEqual(refused(empty.reply, total), ("NeverSeen",))
        book = book_of(FLAT)
        for total in (-1, 41, BIG):
            self.assertEqual(refused(book.reply, total), ("BadNumber", "total", total))


def plan_of(*parts):
    return Plan(GROUND, list(parts))


def walked_weights(parts, seen):
    weights = []
    for share, plan in parts:
        weight = Fraction(fraction(share))
        for spread in seen:
            weight *= sum((fraction(part) for part, dealt in plan.parts if dealt == spread), Fraction(0))
        weights.append(weight)
    return [weight / sum(weights) for weight in weights]


HALF, THIRD = Ratio(1, 2), Ratio(1, 3)
PLANS = (plan_of((1, HIGH)), plan_of((HALF, HIGH), (HALF, FLAT)), plan_of((THIRD, FLAT), (THIRD, MIXED), (THIRD, HIGH)),
         plan_of((Ratio(1, 10), HIGH), (Ratio(9, 10), MIXED)))


class Weighing(unittest.TestCase):
    def check(self, parts, seen):
        found = weigh(parts, seen)
        self.assertIsInstance(found, list)
        self.assertEqual(len(found), len(parts))
        for share in found:
            self.assertIsInstance(share, Ratio)
        self.assertEqual([fraction(share) for share in found], walked_weights(parts, seen))
        return found

    def test_against_a_count(self):
        tried = 0
        for shares in ((1, 0, 0, 0), (0, 0, HALF, HALF), (Ratio(1, 4),) * 4, (Ratio(1, 7), Ratio(4, 7), 0, Ratio(2, 7))):
            parts = list(zip(shares, PLANS))
            for many in range(4):
                for seen in product((HIGH, MIXED, FLAT), repeat=many):
                    if any(share and all(spread in plan for spread in seen) for share, plan in parts):
                        self.check(parts, list(seen))
                        tried += 1
                    else:
                        self.assertEqual(refused(weigh, parts, list(seen)), ("NeverSeen",))
        self.assertGreater(tried, 60)

    def test_by_hand(self):
        self.assertEqual(self.check([(HALF, PLANS[0]), (HALF, PLANS[1])], [HIGH]), [Ratio(2, 3), THIRD])
        self.assertEqual(self.check([(HALF, PLANS[0]), (HALF, PLANS[1])], [HIGH, HIGH]), [Ratio(4, 5), Ratio(1, 5)])
        self.assertEqual(self.check([(HALF, PLANS[0]), (HALF, PLANS[1])], [HIGH, FLAT]), [0, 1])

    def test_no_spread_seen(self):
        self.assertEqual(self.check([(THIRD, PLANS[2]), (1 - THIRD, PLANS[1]), (0, PLANS[0])], []), [THIRD, 1 - THIRD, 0])
        self.assertEqual(self.check([(1, PLANS[2])], []), [1])

    def test_one_plan_twice(self):
        self.assertEqual(self.check([(HALF, PLANS[1]), (HALF, PLANS[1])], [FLAT]), [HALF, HALF])

    def test_spreads_that_no_plan_has(self):
        parts = [(HALF, PLANS[0]), (HALF, PLANS[1])]
        for spread in (MIXED, ((9, 0), (0,)), ((5,),)):
            self.assertEqual(refused(weigh, parts, [spread]), ("NeverSeen",))
            self.assertEqual(refused(weigh, parts, [HIGH, spread, HIGH]), ("NeverSeen",))
        # A plan with the share 0 does not help.
        self.assertEqual(refused(weigh, [(1, PLANS[0]), (0, PLANS[1])], [FLAT]), ("NeverSeen",))

    def test_twelve_plans_and_200_plays(self):
        parts = [(Ratio(1, 12), PLANS[at % 4]) for at in range(12)]
        self.check(parts, [HIGH] * 200)
        self.check(parts, [HIGH, MIXED] * 100)
        small = Ratio(1, BIG)
        near = [(HALF, plan_of((small, HIGH), (1 - small, FLAT))), (HALF, plan_of((2 * small, HIGH), (1 - 2 * small, FLAT)))]
        self.check(near, [HIGH, FLAT] * 100)

    def test_refusals_in_their_order(self):
        bad = [(HALF, PLANS[0])] * 3
        below = [(Ratio(3, 2), PLANS[0]), (-HALF, PLANS[1])]
        good = [(1, PLANS[0])]
        self.assertEqual(refused(weigh, bad * 4 + good, [FLAT] * 201), ("TooMany", "plans", 12))
        self.assertEqual(refused(weigh, good + [(0, PLANS[0])] * 12, [HIGH]), ("TooMany", "plans", 12))
        self.assertIsNone(refused(weigh, good + [(0, PLANS[0])] * 11, [HIGH]))
        for parts in (bad, below, [], bad[:1], [(-1, PLANS[0]), (2, PLANS[1])]):
            self.assertEqual(refused(weigh, parts, [FLAT] * 201), ("BadShares",))
            self.assertEqual(refused(weigh, parts, []), ("BadShares",))
        self.assertEqual(refused(weigh, good, [FLAT] * 201), ("TooMany", "plays", 200))
        self.assertEqual(refused(weigh, good, [HIGH] * 201), ("TooMany", "plays", 200))
        self.assertEqual(refused(weigh, good, [FLAT] * 200), ("NeverSeen",))
        self.assertIsNone(refused(weigh, good, [HIGH] * 200))

    def test_the_arguments_stay(self):
        parts, seen = [(HALF, PLANS[0]), (HALF, PLANS[1])], [HIGH, HIGH]
        found = weigh(parts, seen)
        found.clear()
        self.assertEqual(parts, [(HALF, PLANS[0]), (HALF, PLANS[1])])
        self.assertEqual(seen, [HIGH, HIGH])


if __name__ == "__main__":
    unittest.main()
