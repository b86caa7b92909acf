"""Desks: named blends, and lines of text that work on them."""

from fieldlots.answers import best_answer
from fieldlots.blends import meet
from fieldlots.breach import first_breach
from fieldlots.costs import solve_costs
from fieldlots.errors import BadLine, BadText, LotError, NoPlace, NothingLeft, TooMany
from fieldlots.lines import Line
from fieldlots.making import make
from fieldlots.notation import read_blend, read_ratio, read_whole, write_blend, write_ratio
from fieldlots.sums import solve

LETTERS = "abcdefghijklmnopqrstuvwxyz"
MOST_LETTERS = 12
MOST_LINES = 200
TIES = {"none": 0, "one": 1, "two": -1}


def _check_name(name):
    if not 1 <= len(name) <= MOST_LETTERS or any([letter not in LETTERS for letter in name]):
        raise BadText(0)


def _read_ties(word):
    if word not in TIES:
        raise BadText(0)
    return TIES[word]


def _set_and_shown(desk, name, blend):
    desk[name] = blend
    return [f"{name} {write_blend(blend)}"]


def _lot(desk, words):
    _, name, text = words
    return _set_and_shown(desk, name, read_blend(text))


def _mix(desk, words):
    _, name, share, one, other = words
    return _set_and_shown(desk, name, desk[one].mixed(read_ratio(share), desk[other]))


def _drop(desk, words):
    _, name = words
    desk.drop(name)
    return [f"{name} dropped"]


def _undo(desk, words):
    desk.undo()
    return ["undone"]


def _told(verdict):
    return verdict.rows() + [f"one {write_blend(verdict.one)}", f"two {write_blend(verdict.two)}"]


def _sums(desk, words):
    _, one, two, ties = words
    return _told(solve(read_ratio(one), read_ratio(two), ties=_read_ties(ties)))


def _costs(desk, words):
    _, one, two, ties = words
    return _told(solve_costs(read_ratio(one), read_ratio(two), ties=_read_ties(ties)))


def _best(desk, words):
    _, name, mean, ties = words
    answer = best_answer(desk[name], read_ratio(mean), ties=_read_ties(ties))
    return [f"worth {write_ratio(answer.worth)}"]


def _breach(desk, words):
    _, name, start, slope, ties = words
    line = Line(read_ratio(start), read_ratio(slope))
    found = first_breach(desk[name], line, ties=_read_ties(ties))
    return ["breach none" if found is None else f"breach {found}"]


def _meet(desk, words):
    _, one, other, ties = words
    gain = meet(desk[one], desk[other], ties=_read_ties(ties))
    return [f"gain {write_ratio(gain)}"]


def _make(desk, words):
    _, name, fields = words
    return [f"share {write_ratio(make(desk[name], read_whole(fields)).share)}"]


COMMANDS = {"lot": _lot, "mix": _mix, "drop": _drop, "undo": _undo, "sums": _sums, "costs": _costs,
            "best": _best, "breach": _breach, "meet": _meet, "make": _make}
# How many words the line of a command has, the command among them.
LENGTHS = {"lot": 3, "mix": 5, "drop": 2, "undo": 1, "sums": 4, "costs": 4,
           "best": 4, "breach": 5, "meet": 4, "make": 3}


def _words_of(line):
    """The words of a line; a blend, the last word of its line, has blanks of its own."""
    words = line.split(" ")
    if words[0] == "lot":
        return words[:2] + [" ".join(words[2:])]
    return words


def _printed(desk, line):
    """The rows that a line prints when the desk runs it."""
    words = _words_of(line)
    command = words[0]
    if command not in COMMANDS or len(words) != LENGTHS[command]:
        raise BadText(0)
    action = COMMANDS[command]
    return action(desk, words)


class Desk:
    """Named blends, in the order of their names' first setting, and the changes that can be taken back."""

    def __init__(self):
        self._blends = {}
        # For each change: the name, the place that it had before, and its blend before or None if it had none.
        self._changes = []

    def _note(self, name):
        """Keeps what the name is now, for the change that follows."""
        if name in self._blends:
            self._changes.append((name, list(self._blends).index(name), self._blends[name]))
        else:
            self._changes.append((name, len(self._blends), None))

    def drop(self, name):
        """Forgets the blend with this name."""
        if name not in self._blends:
            raise NoPlace("no blend with this name")
        self._note(name)
        del self._blends[name]

    def undo(self):
        """Takes back the last change that is not taken back."""
        if not self._changes:
            raise NothingLeft("no change to take back")
        name, place, blend = self._changes.pop()
        pairs = [(other, kept) for other, kept in self._blends.items() if other != name]
        if blend is not None:
            pairs.insert(place, (name, blend))
        self._blends = dict(pairs)

    def _copied(self):
        desk = Desk()
        desk._blends = dict(self._blends)
        desk._changes = list(self._changes)
        return desk

    def run(self, lines):
        """Runs lines and returns the rows that they print."""
        if len(lines) > MOST_LINES:
            raise TooMany("lines", MOST_LINES)
        # A copy runs the lines, so that a line that cannot be run leaves everything as it was.
        desk = self._copied()
        rows = []
        for number, line in enumerate(lines, start=1):
            try:
                printed = _printed(desk, line)
            except LotError:
                raise BadLine(number) from None
            rows.extend(printed)
        self._blends = desk._blends
        self._changes = desk._changes
        return rows

    def __len__(self):
        return len(self._blends)

    def __iter__(self):
        return iter(self._blends)

    def __contains__(self, x):
        return x in self._blends

    def __getitem__(self, at):
        if at not in self._blends:
            raise NoPlace("no blend with this name")
        return self._blends[at]

    def __setitem__(self, at, worth):
        _check_name(at)
        self._note(at)
        self._blends[at] = worth
