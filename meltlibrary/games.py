"""A librarian who keeps texts, and an enemy who lets tablets melt."""

from meltlibrary.checks import MOST_TABLETS, check_game, check_tablet, wrong_part
from meltlibrary.libraries import choices, keep_all, library_of, mask_of, masks_of, rank_of
from meltlibrary.libraries import sorted_library, sum_at, without
from meltlibrary.plays import Play, all_rests, days_lost, state_of, states_behind
from meltlibrary.schemes import every_tablet, sorted_rows


def play_of(library, most, melts):
    """All that can happen to a library while its texts are kept, so many tablets melting each day."""
    return Play([state_of(masks_of(library))], most, library[0], melts)


def best_rows(lost, masks, most, number):
    """The ascending list of the rows of numbers with which a librarian holds out longest behind a melting."""
    rest = without(masks, number)
    rows = choices([other for other in range(len(masks)) if other != number], most)
    # A state that is not among the lost ones is held for ever: None.
    days = [lost.get(state_of([*rest, sum_at(masks, row)])) for row in rows]
    if None in days:
        return [row for row, day in zip(rows, days) if day is None]
    longest = max(days)
    return [row for row, day in zip(rows, days) if day == longest]


def soonest_loss(library, most, melts):
    """The least number of days within which an enemy wins who lets so many tablets melt, None if it cannot."""
    masks = masks_of(library)
    if not keep_all(masks, library[0]):
        return 0
    return days_lost(play_of(library, most, melts)).get(state_of(masks))


def lost_within(library, most):
    """The least number of days within which the enemy wins, None if it cannot."""
    check_game(library, most)
    return soonest_loss(library, most, 1)


def kept_for_ever(library, most):
    """Whether the enemy cannot win."""
    return lost_within(library, most) is None


def good_writings(library, most, number):
    """The ascending tuple of the rows of numbers with which a librarian holds out longest."""
    check_game(library, most)
    check_tablet(number, len(library[1]))
    masks = masks_of(library)
    if not keep_all(without(masks, number), library[0]):
        return ()
    return tuple(best_rows(days_lost(play_of(library, most, 1)), masks, most, number))


def chosen_states(play, lost, start):
    """A list of states, one of them given, that are held for ever by writing no others."""
    chosen = {start: True}
    waiting = [start]
    while waiting:
        state = waiting.pop()
        for rest in play.rests[state]:
            held = [other for other in play.states[rest] if other not in lost]
            if not any(other in chosen for other in held):
                chosen[held[0]] = True
                waiting.append(held[0])
    return list(chosen)


def found_family(library, most, melts):
    """A family that keeps the library while so many tablets melt each day, None if none does."""
    play = play_of(library, most, melts)
    lost = days_lost(play)
    start = state_of(masks_of(library))
    if start in lost:
        return None
    return tuple(sorted([library_of(library[0], state) for state in chosen_states(play, lost, start)]))


def family(library, most):
    """A family that keeps the library, None if none does."""
    check_game(library, most)
    return found_family(library, most, 1)


def is_sorted_library(value, texts, many):
    """Whether a value is a sorted library of so many texts and tablets."""
    if wrong_part(value) is not None or value[0] != texts or len(value[1]) != many:
        return False
    return value == sorted_library(value)


def are_sorted_libraries(value, texts, many):
    """Whether a value is an ascending tuple of unlike sorted libraries of so many texts and tablets."""
    if not isinstance(value, tuple):
        return False
    if not all(is_sorted_library(one, texts, many) for one in value):
        return False
    return all([one < other for one, other in zip(value, value[1:])])


def keep_each_other(states, texts, most, melts):
    """Whether behind each melting all texts are kept and one of the states can be written again."""
    for state in states:
        for rest in all_rests(state, melts):
            if not any(other in states for other in states_behind(rest, most, texts, melts)):
                return False
    return True


def is_found_family(library, most, melts, value):
    """Whether a value is what found_family may return."""
    if value is None:
        return soonest_loss(library, most, melts) is not None
    texts, tablets = library
    if not are_sorted_libraries(value, texts, len(tablets)):
        return False
    states = {state_of(masks_of(one)): True for one in value}
    return state_of(masks_of(library)) in states and keep_each_other(states, texts, most, melts)


def shows_family(library, most, value):
    """Whether a value is what family may return."""
    check_game(library, most)
    return is_found_family(library, most, 1, value)


def is_lost_within(play, lost, rest, days):
    """Whether texts are lost within so many days more, whatever is written to what is left."""
    return all(state in lost and lost[state] <= days for state in play.states[rest])


def soonest_lost(play, lost, masks, days):
    """The least number of a mask behind whose melting texts are lost within so many days more."""
    rests = [state_of(without(masks, number)) for number in range(len(masks))]
    return min([number for number, rest in enumerate(rests) if is_lost_within(play, lost, rest, days)])


def downfall(library, most):
    """The days by which texts are lost if both do their best, None if they are kept for ever."""
    check_game(library, most)
    masks = masks_of(library)
    if not keep_all(masks, library[0]):
        return ()
    play = play_of(library, most, 1)
    lost = days_lost(play)
    start = state_of(masks)
    if start not in lost:
        return None
    days = []
    for left in reversed(range(lost[start])):
        number = soonest_lost(play, lost, masks, left)
        row = best_rows(lost, masks, most, number)[0] if left > 0 else ()
        days.append((number, row))
        masks[number] = sum_at(masks, row)
    return tuple(days)


def is_rank_kept(masks, most, goal):
    """Whether the rank behind each melting can be kept at a goal or above for ever."""
    start = state_of(masks)
    return start not in days_lost(Play([start], most, goal, 1))


def rank_kept(library, most):
    """The greatest rank that can be kept behind each melting for ever."""
    check_game(library, most)
    masks = masks_of(library)
    goal = rank_of(masks)
    while not is_rank_kept(masks, most, goal):
        goal -= 1
    return goal


def kept_additions(library, most, many):
    """The ascending list of the rows of so many tablets with which all texts are kept for ever."""
    texts, tablets = library
    rows = sorted_rows(every_tablet(texts), many)
    starts = [state_of([mask_of(tablet) for tablet in tablets + row]) for row in rows]
    # One play for all of them, as most of what can happen to them is the same.
    lost = days_lost(Play(starts, most, texts, 1))
    return [row for row, start in zip(rows, starts) if start not in lost]


def additions(library, most):
    """The ascending tuple of the shortest rows of tablets with which all texts are kept for ever."""
    check_game(library, most)
    for many in range(MOST_TABLETS - len(library[1]) + 1):
        rows = kept_additions(library, most, many)
        if rows:
            return tuple(rows)
    return ()
