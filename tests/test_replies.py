import unittest
from itertools import product

from fieldlots.errors import BadNumber, NoPlace
from fieldlots.grounds import Ground
from fieldlots.plans import Plan, plan_gain
from fieldlots.ratio import Ratio
from fieldlots.replies import Reply, best_reply
from tests.helpers import TIES, fraction, ratio, walked_gain

GROUNDS = (Ground.plain(1), Ground.plain(3), Ground((5, 2), (3, 1)), Ground((1, 1), (1000, 1), (2, 2)),
           Ground((1, 1), (7, 1), (2, 1), (3, 2)))


def some_plans(ground, forces):
    """A plan with one part and one with many."""
    some = list(ground.spreads(forces))
    yield Plan(ground, [(1, some[len(some) // 2])])
    some = some[::2][:64]
    weights = range(1, len(some) + 1)
    yield Plan(ground, [(Ratio(weight, sum(weights)), spread) for weight, spread in zip(weights, some)])


def plans():
    for ground in GROUNDS:
        for forces in (0, 2, 5):
            yield from some_plans(ground, forces)


def walked_bound(plan, at, left, ties):
    """The least on the fields with index `at` and above, by a walk over all ways to lay `left` forces on them."""
    fields = [(worth, margin) for (worth, many), margin in zip(plan.ground.classes, plan.margins()) for _ in range(many)]
    gains = [[worth * walked_gain(margin, y, ties) for y in range(left + 1)] for worth, margin in fields[at:]]
    found = [sum(row[y] for row, y in zip(gains, ys)) for ys in product(range(left + 1), repeat=len(gains)) if sum(ys) == left]
    return min(found) if found else None


class Replies(unittest.TestCase):
    def check(self, plan, total, ties):
        reply = best_reply(plan, total, ties=ties)
        self.assertIsInstance(reply, Reply)
        self.assertIsInstance(reply.worth, Ratio)
        self.assertIsInstance(reply.spread, tuple)
        self.assertEqual(plan.ground.total(reply.spread), total)
        self.assertEqual(plan_gain(plan, reply.spread, ties=ties), reply.worth)
        self.assertEqual(reply.bound(0, total), reply.worth)
        return reply

    def test_against_all_spreads(self):
        for plan, total, ties in product(list(plans()), (0, 1, 4, 6), TIES):
            reply = self.check(plan, total, ties)
            least = min(fraction(plan_gain(plan, spread, ties=ties)) for spread in plan.ground.spreads(total))
            self.assertEqual(reply.worth, ratio(least))

    def test_an_example(self):
        # Two forces on one field of worth 5 take it; on the other fields they take nothing.
        plan = Plan(Ground((1, 2), (5, 1)), [(1, ((3, 3), (1,)))])
        reply = best_reply(plan, 2)
        self.assertEqual(reply.worth, -3)
        self.assertEqual(reply.spread, ((0, 0), (2,)))
        self.assertEqual(best_reply(plan, 1, ties=-1).worth, -3)
        self.assertEqual(best_reply(plan, 1).worth, 2)
        self.assertEqual(best_reply(plan, 1, ties=1).worth, 7)
        self.assertRaises(TypeError, best_reply, plan, 1, 0)

    def test_the_spread_is_in_descending_order(self):
        # The first field may be taken with one force, but rows begin with the greatest strength.
        plan = Plan(Ground.plain(4), [(Ratio(1, 2), ((4, 1, 0, 0),)), (Ratio(1, 2), ((2, 2, 1, 0),))])
        for total, ties in product(range(9), TIES):
            self.check(plan, total, ties)

    def test_totals_of_0_and_40(self):
        for plan, ties in product(list(plans()), TIES):
            self.check(plan, 40, ties)
            none = tuple((0,) * many for _, many in plan.ground.classes)
            self.assertEqual(self.check(plan, 0, ties).spread, none)

    def test_twelve_fields_and_40_forces(self):
        for ground in (Ground.plain(12), Ground((1, 3), (20, 3), (300, 3), (1000, 3)), Ground((7, 11), (1, 1))):
            first, *others = [(3,) * many for _, many in ground.classes]
            even = ((7,) + first[1:], *others)
            first, *others = [(0,) * many for _, many in ground.classes]
            alone = ((40,) + first[1:], *others)
            plan = Plan(ground, [(Ratio(1, 3), alone), (Ratio(2, 3), even)])
            for ties in TIES:
                self.check(plan, 40, ties)

    def test_many_parts_with_unlike_shares(self):
        ground = Ground((3, 4), (2, 4))
        some = list(ground.spreads(30))[::300][:64]
        shares = [Ratio(1, 100 + at) for at in range(len(some) - 1)]
        shares.append(1 - sum(shares))
        plan = Plan(ground, list(zip(shares, some)))
        for ties in TIES:
            self.check(plan, 30, ties)


class Bounds(unittest.TestCase):
    def test_against_a_walk(self):
        for plan, total, ties in product(list(plans()), (0, 1, 4), TIES):
            reply = best_reply(plan, total, ties=ties)
            fields = plan.ground.fields
            for at, left in product(range(fields), range(total + 1)):
                bound = reply.bound(at, left)
                self.assertIsInstance(bound, Ratio)
                self.assertEqual(bound, ratio(walked_bound(plan, at, left, ties)))

    def test_behind_the_last_field(self):
        for plan in plans():
            reply = best_reply(plan, 5)
            end = plan.ground.fields
            self.assertIsInstance(reply.bound(end, 0), Ratio)
            self.assertEqual(reply.bound(end, 0), 0)
            for left in range(1, 6):
                self.assertIsNone(reply.bound(end, left))

    def test_no_place(self):
        plan = Plan(Ground((5, 2), (3, 1)), [(1, ((2, 1), (0,)))])
        for total in (0, 4, 40):
            reply = best_reply(plan, total)
            for at, left in ((-1, 0), (4, 0), (5, 0), (0, -1), (0, total + 1), (3, total + 1), (3, -1), (-1, -1),
                             (4, total + 1), (-4, 0), (10 ** 30, 0), (0, 10 ** 30)):
                self.assertRaises(NoPlace, reply.bound, at, left)
            reply.bound(0, total)
            reply.bound(3, total)

    def test_methods_stand_in_the_class(self):
        self.assertIn("bound", Reply.__dict__)


class Refusals(unittest.TestCase):
    def test_of_best_reply(self):
        plan = Plan(Ground.plain(2), [(1, ((2, 1),))])
        for total in (-1, 41, -10 ** 30, 10 ** 30):
            with self.assertRaises(BadNumber) as caught:
                best_reply(plan, total)
            self.assertEqual((caught.exception.name, caught.exception.value), ("total", total))
            with self.assertRaises(BadNumber) as caught:
                best_reply(plan, total, ties=2)
            self.assertEqual((caught.exception.name, caught.exception.value), ("ties", 2))


if __name__ == "__main__":
    unittest.main()
