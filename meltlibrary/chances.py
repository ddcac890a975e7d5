"""The chances that texts are kept while each tablet is equally likely to melt."""

from math import gcd

from meltlibrary.checks import check_game, check_library, check_number
from meltlibrary.libraries import keep_all, masks_of, without
from meltlibrary.plays import Play, state_of

MOST_CHANCE_DAYS = 30


def lowest(part, whole):
    """A part of a whole in lowest terms."""
    common = gcd(part, whole)
    return part // common, whole // common


def a_day_longer(play, kept):
    """For each state of a play behind how many rows of meltings texts are kept, from those of a day less."""
    best = {}
    for rest in play.states:
        # All rows are as long and as likely, so that more of them are a better chance.
        best[rest] = max([kept[state] for state in play.states[rest]], default=0)
    longer = {}
    for state in play.rests:
        longer[state] = sum([best[rest] for rest in play.rests[state]])
    return longer


def best_chance(library, most, days):
    """The chance that all texts are kept for so many days by a librarian who does his best."""
    check_game(library, most)
    check_number(days, 0, MOST_CHANCE_DAYS)
    masks = masks_of(library)
    if not keep_all(masks, library[0]):
        return 0, 1
    start = state_of(masks)
    play = Play([start], most, library[0], 1)
    kept = {state: 1 for state in play.rests}
    whole = 1
    for _ in range(days):
        kept = a_day_longer(play, kept)
        whole = whole * len(masks)
    return lowest(kept[start], whole)


def idle_chance(library, days):
    """The chance that all texts are kept for so many days if nothing is ever written."""
    check_library(library)
    check_number(days, 0, MOST_CHANCE_DAYS)
    masks = masks_of(library)
    if days >= len(masks):
        return 0, 1
    rows = [masks]
    for _ in range(days):
        rows = [without(row, number) for row in rows for number in range(len(row))]
    kept = [row for row in rows if keep_all(row, library[0])]
    return lowest(len(kept), len(rows))
