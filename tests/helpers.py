"""Plain walks over all strengths, against which the tests hold the program."""

from fractions import Fraction
from itertools import permutations, product
from math import factorial

from fieldlots.blends import Blend
from fieldlots.errors import LotError
from fieldlots.ratio import Ratio
from fieldlots.runs import Run

BIG = 10 ** 30
TIES = (-1, 0, 1)


def refused(call, *rest, **more):
    """The name and the attributes of the error that a call raises, or None if it raises none."""
    try:
        call(*rest, **more)
    except LotError as error:
        return (type(error).__name__, *vars(error).values())
    return None


def fraction(number):
    """The Fraction of a number."""
    if isinstance(number, Ratio):
        return Fraction(number.top, number.under)
    return Fraction(number)


def ratio(number):
    """The Ratio of a Fraction."""
    number = Fraction(number)
    return Ratio(number.numerator, number.denominator)


def duel_of(x, y, ties):
    """What strength x gets against strength y."""
    return ties if x == y else 1 if x > y else -1


def listed(run):
    """The strengths of a run, without its own methods."""
    return [run.first + run.step * at for at in range(run.count)]


def walked_gain(blend, y, ties):
    """The gain of a blend against a strength, by a walk over its strengths."""
    total = Fraction(0)
    for share, run in blend.parts:
        for x in listed(run):
            total += fraction(share) / run.count * duel_of(x, y, ties)
    return total


def walked_chance(blend, y):
    """The chance of a strength, by a walk."""
    total = Fraction(0)
    for share, run in blend.parts:
        total += fraction(share) / run.count * listed(run).count(y)
    return total


def small_runs(firsts=(0, 1, 5), counts=(1, 2, 3, 7)):
    """Small runs of all steps."""
    return [Run(first, step, count) for first in firsts for step in (1, 2, 3, 4) for count in counts]


def small_blends():
    """Blends of one to three small runs of unlike steps."""
    third = Ratio(1, 3)
    return [
        Blend.point(0),
        Blend.point(3),
        Blend.of_run(Run(0, 1, 6)),
        Blend.of_run(Run(2, 4, 4)),
        Blend.of_run(Run.odd(4)),
        Blend([(third, Run(0, 1, 1)), (1 - third, Run(1, 2, 4))]),
        Blend([(Ratio(1, 2), Run(0, 3, 4)), (Ratio(1, 2), Run(1, 4, 4))]),
        Blend([(Ratio(1, 5), Run(0, 2, 5)), (Ratio(2, 5), Run(3, 3, 4)), (Ratio(2, 5), Run(7, 4, 3))]),
        Blend([(Ratio(1, 7), Run(9, 4, 3)), (Ratio(6, 7), Run(2, 3, 4))]),
    ]


def same_chances(blend):
    """The blend cut into other parts with the same chances."""
    parts = []
    for share, run in blend.parts:
        if run.count == 1:
            parts += [(share * Ratio(1, 4), run), (share * Ratio(3, 4), run)]
        else:
            step = run.step
            cut = run.count // 2
            parts.append((share * Ratio(run.count - cut, run.count), Run(run.first + step * cut, step, run.count - cut)))
            parts.append((share * Ratio(cut, run.count), Run(run.first, step, cut)))
    return Blend(parts)


def number(text):
    """The Ratio of a written number."""
    return ratio(Fraction(text))


def text_of_blend(blend):
    """The parts of a blend, written in their order."""
    return " + ".join(f"{share}*{run.first}:{run.step}:{run.count}" for share, run in blend.parts)


def text_of_line(line):
    """The start and the slope of a line, written."""
    return f"{line.start} {line.slope}"


def texts_of_verdict(verdict):
    """The worth, the lots and the lines of a verdict, written."""
    return (str(verdict.worth), text_of_blend(verdict.one), text_of_blend(verdict.two),
            text_of_line(verdict.floor_one), text_of_line(verdict.floor_two))


def numbers_of_verdict(verdict):
    """All numbers of a verdict that have to be Ratios."""
    found = [verdict.worth, verdict.mean_one, verdict.mean_two]
    for line in (verdict.floor_one, verdict.floor_two):
        found += [line.start, line.slope]
    for blend in (verdict.one, verdict.two):
        found += [share for share, _ in blend.parts]
    return found


def rows_of(many, forces):
    """All descending tuples of so many strengths with this sum."""
    return [row for row in product(range(forces + 1), repeat=many)
            if sum(row) == forces and all(x >= y for x, y in zip(row, row[1:]))]


def walked_spreads(sizes, forces):
    """All spreads over classes of these sizes, by a walk over all tuples, in no order."""
    found = []
    for split in product(range(forces + 1), repeat=len(sizes)):
        if sum(split) == forces:
            found += product(*[rows_of(many, part) for many, part in zip(sizes, split)])
    return found


def walked_spread_gain(classes, one, other, ties):
    """What one spread gets against another, by a walk over all orders of both on the fields of each class."""
    total = Fraction(0)
    for (worth, many), row, facing in zip(classes, one, other):
        for xs, ys in product(permutations(row), permutations(facing)):
            total += Fraction(worth * sum(duel_of(x, y, ties) for x, y in zip(xs, ys)), factorial(many) ** 2)
    return total
