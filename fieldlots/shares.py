"""Shares of parts, as blends and plans have them."""

from fieldlots.errors import BadShares, TooMany
from fieldlots.ratio import added, as_ratio

MOST_PARTS = 64


def check_parts(parts):
    """Refuses too many parts, a share below 0 and shares that do not add up to 1."""
    if len(parts) > MOST_PARTS:
        raise TooMany("parts", MOST_PARTS)
    shares = [share for share, _ in parts]
    if any([share < 0 for share in shares]):
        raise BadShares("a share is negative")
    if added(shares) != 1:
        raise BadShares("the shares do not add up to 1")


def put_together(parts, marks):
    """The parts with a share, those with equal marks as one at the place of the first of them."""
    places = {}
    kept = []
    for (share, dealt), mark in zip(parts, marks):
        if share == 0:
            continue
        if mark in places:
            earlier, _ = kept[places[mark]]
            kept[places[mark]] = (earlier + share, dealt)
        else:
            places[mark] = len(kept)
            kept.append((as_ratio(share), dealt))
    return kept


def mixed_parts(share, own, others):
    """The own parts with the share, then the others with the rest of 1."""
    rest = 1 - share
    return [(share * part, dealt) for part, dealt in own] + [(rest * part, dealt) for part, dealt in others]
