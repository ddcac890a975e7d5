"""Floods and a late librarian worked out slowly by the document's words.

Nothing here is taken from the program.
"""

import functools
from itertools import combinations

from tests import plain, plain_games
from tests.plain_games import keep, sorted_one


@functools.lru_cache(maxsize=None)
def all_written(tablets, most, many):
    """All sorted tuples that so many writings, one after another, make of the tablets that are there."""
    if many == 0:
        return frozenset([tuple(sorted(tablets))])
    found = set()
    for size in range(most + 1):
        for row in combinations(tablets, size):
            found |= all_written(tuple(sorted(tablets + (plain.sum_of(row),))), most, many - 1)
    return frozenset(found)


@functools.lru_cache(maxsize=None)
def floods(library, most, melts):
    """For each lot that can melt at once what is left, and the sorted libraries that can be written."""
    texts, tablets = library
    found = []
    for lot in combinations(range(len(tablets)), melts):
        rest = tuple(tablet for k, tablet in enumerate(tablets) if k not in lot)
        found.append((rest, {(texts, row) for row in all_written(tuple(sorted(rest)), most, melts)}))
    return found


@functools.lru_cache(maxsize=None)
def flood_days(texts, many, most, melts):
    """The days within which sorted libraries are lost, 0 included."""
    every = plain.sorted_libraries(texts, many)
    steps = {library: floods(library, most, melts) for library in every}
    lost = plain_games.play(steps, lambda texts, rest: not keep(texts, rest))
    lost.update({library: 0 for library in every if not keep(*library)})
    return lost


def flood_lost_within(library, most, melts):
    return flood_days(library[0], len(library[1]), most, melts).get(sorted_one(library))


def is_flood_family(libraries, library, most, melts):
    """Whether a tuple of sorted libraries, all as long as one, is a family as a flood asks for."""
    if list(libraries) != sorted(set(libraries)) or sorted_one(library) not in libraries:
        return False
    members = set(libraries)
    for one in libraries:
        if not keep(*one):
            return False
        if not all(keep(one[0], rest) and behind & members for rest, behind in floods(one, most, melts)):
            return False
    return True


def flood_schemes(texts, many, most, melts):
    return tuple(one for one in plain.sorted_libraries(texts, many) if is_flood_family((one,), one, most, melts))


def flood_kept_libraries(texts, many, most, melts):
    """The ascending tuple of all sorted libraries that are kept for ever."""
    lost = flood_days(texts, many, most, melts)
    return tuple(sorted(one for one in plain.sorted_libraries(texts, many) if one not in lost))


def melt(tablets, numbers):
    """The tablets in their places, None in those of these numbers."""
    return tuple(None if k in numbers else tablet for k, tablet in enumerate(tablets))


def there(tablets):
    return tuple(tablet for tablet in tablets if tablet is not None)


def write(tablets, most, number):
    """All that a writing in the place of a number can make of the tablets in their places."""
    found = set()
    for size in range(most + 1):
        for row in combinations(there(tablets), size):
            found.add(tablets[:number] + (plain.sum_of(row),) + tablets[number + 1:])
    return found


@functools.lru_cache(maxsize=None)
def loses_flood(texts, tablets, most, melts, days):
    """Whether texts are lost within so many days, the tablets in their places."""
    if not keep(texts, tablets):
        return True
    if days == 0:
        return False
    for lot in combinations(range(len(tablets)), melts):
        rows = {melt(tablets, lot)}
        if not keep(texts, there(melt(tablets, lot))):
            return True
        for number in lot:
            rows = {fresh for row in rows for fresh in write(row, most, number)}
        if all(loses_flood(texts, row, most, melts, days - 1) for row in rows):
            return True
    return False


@functools.lru_cache(maxsize=None)
def loses_late(texts, tablets, most, late, melted, days):
    """Whether texts are lost within so many days; melted has the numbers that are not rewritten yet, in order."""
    if not keep(texts, there(tablets)):
        return True
    if days == 0:
        return False
    for number in range(len(tablets)):
        if tablets[number] is not None:
            rest = melt(tablets, (number,))
            if not keep(texts, there(rest)):
                return True
            waiting = melted + (number,)
            rows = {rest}
            if len(waiting) > late:
                rows = write(rest, most, waiting[0])
                waiting = waiting[1:]
            if all(loses_late(texts, row, most, late, waiting, days - 1) for row in rows):
                return True
    return False


def late_lost_within(library, most, late):
    """By what the document says of the first late days: what is left then, and how soon it is lost."""
    texts, tablets = library
    for days in range(late + 1):
        for rest in combinations(tablets, len(tablets) - days):
            if not keep(texts, rest):
                return days
    days = [plain_games.lost_within((texts, rest), most) for rest in combinations(tablets, len(tablets) - late)]
    days = [day for day in days if day is not None]
    return late + min(days) if days else None
