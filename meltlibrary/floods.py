"""Floods, in which several tablets melt at once, and a librarian who writes late."""

from meltlibrary.checks import MOST_LATE, MOST_MELTS, check_counts, check_flood, check_game, check_most, check_number
from meltlibrary.games import found_family, is_found_family, soonest_loss
from meltlibrary.libraries import keep_all, mask_of, masks_of, sorted_library
from meltlibrary.plays import Play, all_rests, days_lost, state_of
from meltlibrary.schemes import every_tablet, sorted_rows


def flood_lost_within(library, most, melts):
    """The least number of days within which the enemy wins by floods, None if it cannot."""
    check_flood(library, most, melts)
    return soonest_loss(library, most, melts)


def flood_kept(library, most, melts):
    """Whether the enemy cannot win by floods."""
    return flood_lost_within(library, most, melts) is None


def flood_family(library, most, melts):
    """A family that keeps the library in floods, None if none does."""
    check_flood(library, most, melts)
    return found_family(library, most, melts)


def shows_flood_family(library, most, melts, value):
    """Whether a value is what flood_family may return."""
    check_flood(library, most, melts)
    return is_found_family(library, most, melts, value)


def is_flood_scheme(library, most, melts):
    """Whether the sorted library alone is a family that keeps it in floods."""
    check_flood(library, most, melts)
    return is_found_family(library, most, melts, (sorted_library(library),))


def flood_schemes(texts, tablets, most, melts):
    """The ascending tuple of all sorted libraries of so many texts and tablets that are flood schemes."""
    check_counts(texts, tablets)
    check_most(most)
    check_number(melts, 1, min(MOST_MELTS, tablets))
    rows = sorted_rows(every_tablet(texts), tablets)
    starts = [state_of([mask_of(tablet) for tablet in row]) for row in rows]
    # One play for all of them, as unlike libraries have like rests.
    play = Play(starts, most, texts, melts)
    return tuple([(texts, row) for row, start in zip(rows, starts) if play.comes_again(start)])


def late_lost_within(library, most, late):
    """The least number of days within which the enemy wins over a late librarian, None if it cannot."""
    check_game(library, most)
    texts, tablets = library
    check_number(late, 0, min(MOST_LATE, len(tablets) - 1))
    state = state_of(masks_of(library))
    for days in range(late + 1):
        if not all([keep_all(rest, texts) for rest in all_rests(state, days)]):
            return days
    # Behind these days he is as one who is not late with so many tablets fewer.
    rests = all_rests(state, late)
    lost = days_lost(Play(rests, most, texts, 1))
    soonest = min([lost[rest] for rest in rests if rest in lost], default=None)
    return None if soonest is None else late + soonest


def late_kept(library, most, late):
    """Whether the enemy cannot win over a late librarian."""
    return late_lost_within(library, most, late) is None
