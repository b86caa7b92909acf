"""Written forms of numbers, runs and blends, and their reading."""

from fieldlots.blends import Blend
from fieldlots.errors import BadNumber, BadText, TooMany
from fieldlots.ratio import Ratio, added
from fieldlots.runs import Run
from fieldlots.shares import MOST_PARTS

FIGURES = "0123456789"
MOST_FIGURES = 60
MOST_ROWS = 1000


def write_ratio(number):
    """A number: `4`, or `-3/2`."""
    return str(number)


def write_run(run):
    """A run: `first:step:count`."""
    return f"{run.first}:{run.step}:{run.count}"


def write_blend(blend):
    """A blend: its parts `share*run`, in their order."""
    return " + ".join([f"{write_ratio(share)}*{write_run(run)}" for share, run in blend])


def read_whole(text):
    """The whole number of at least 0 that the text writes."""
    # Python would read other figures, blanks and underscores, too, so each one is looked at first.
    if not 1 <= len(text) <= MOST_FIGURES or any([letter not in FIGURES for letter in text]):
        raise BadText(0)
    if len(text) > 1 and text.startswith("0"):
        raise BadText(0)
    return int(text)


def read_ratio(text):
    """The number that the text writes."""
    top, stroke, under = text.removeprefix("-").partition("/")
    number = Ratio(read_whole(top), _read_count(under) if stroke else 1)
    if text.startswith("-"):
        number = -number
    # No lowest terms, a needless stroke and a sign before 0 are not written so.
    if write_ratio(number) != text:
        raise BadText(0)
    return number


def _read_count(text):
    """A whole number of at least 1."""
    number = read_whole(text)
    if number == 0:
        raise BadText(0)
    return number


def read_run(text):
    """The run that the text writes."""
    words = text.split(":")
    if len(words) != 3:
        raise BadText(0)
    first, step, count = [read_whole(word) for word in words]
    try:
        run = Run(first, step, count)
    except BadNumber:
        raise BadText(0) from None
    # One strength is written with step 1 only.
    if write_run(run) != text:
        raise BadText(0)
    return run


def _read_part(piece):
    """The share, above 0, and the run of one piece."""
    share, _, run = piece.partition("*")
    found = read_ratio(share)
    if found <= 0:
        raise BadText(0)
    return found, read_run(run)


def _read_parts(pieces):
    """The parts of all pieces, if none is wrong and none repeats an earlier run."""
    parts = []
    earlier = {}
    for at, piece in enumerate(pieces):
        if at == MOST_PARTS:
            raise BadText(at)
        try:
            share, run = _read_part(piece)
        except BadText:
            raise BadText(at) from None
        mark = write_run(run)
        if mark in earlier:
            raise BadText(at)
        earlier[mark] = True
        parts.append((share, run))
    return parts


def read_blend(text):
    """The blend that the text writes."""
    parts = _read_parts(text.split(" + "))
    if added([share for share, _ in parts]) != 1:
        raise BadText(len(parts))
    return Blend(parts)


def chart(blend, low, high):
    """A row of text with the chance of each strength from low to high."""
    if low < 0:
        raise BadNumber("low", low)
    if high - low >= MOST_ROWS:
        raise TooMany("rows", MOST_ROWS)
    return [f"{k:>8} {write_ratio(blend[k]):>16}" for k in range(low, high + 1)]
