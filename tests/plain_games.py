"""The game, the chances and the texts worked out slowly by the document's words.

Nothing here is taken from the program. The game is played day by day over all libraries
of so many texts and tablets; chances go over all rows of meltings.
"""

import functools
from fractions import Fraction
from itertools import combinations_with_replacement, permutations

from tests import plain


def sorted_one(library):
    return library[0], tuple(sorted(library[1]))


def left(library, number):
    """The tablets that are left when one melts."""
    return tuple(tablet for k, tablet in enumerate(library[1]) if k != number)


def written(library, number, row):
    """The library behind a day."""
    return plain.after(library, ((number, row),))


@functools.lru_cache(maxsize=None)
def keep(texts, tablets):
    return plain.keep(texts, tablets)


@functools.lru_cache(maxsize=None)
def rank(texts, tablets):
    return plain.rank((texts, tablets))


@functools.lru_cache(maxsize=None)
def meltings(library, most, name):
    """For each melting what is left, and the libraries that a writing makes of it.

    name is the library that stands for one.
    """
    found = []
    for number in range(len(library[1])):
        rows = plain.writings(len(library[1]), most, number)
        found.append((left(library, number), {name(written(library, number, row)) for row in rows}))
    return found


def play(steps, is_over):
    """The least number of days within which the enemy wins, for each library from which it does.

    is_over tells whether the enemy has won with what is left. Day 0 is not looked at.
    """
    lost = {}
    day = 0
    while True:
        day += 1
        fresh = []
        for library, rows in steps.items():
            if library not in lost:
                if any(is_over(library[0], rest) or all(one in lost for one in behind) for rest, behind in rows):
                    fresh.append(library)
        if not fresh:
            return lost
        lost.update({library: day for library in fresh})


def itself(library):
    return library


def lost_from(libraries, most, name):
    """The days within which texts are lost, 0 included, for each of the libraries that loses them."""
    steps = {library: meltings(library, most, name) for library in libraries}
    lost = play(steps, lambda texts, rest: not keep(texts, rest))
    lost.update({library: 0 for library in libraries if not keep(*library)})
    return lost


@functools.lru_cache(maxsize=None)
def lost_days(texts, many, most):
    """The days within which sorted libraries are lost."""
    return lost_from(tuple(plain.sorted_libraries(texts, many)), most, sorted_one)


@functools.lru_cache(maxsize=None)
def lost_days_in_order(texts, many, most):
    """The same for libraries in any order of their tablets, none standing for another."""
    return lost_from(tuple(plain.all_libraries(texts, many)), most, itself)


@functools.lru_cache(maxsize=None)
def ranks_lost(texts, many, most, goal):
    """The sorted libraries with which the rank behind a melting falls below a goal."""
    steps = {library: meltings(library, most, sorted_one) for library in plain.sorted_libraries(texts, many)}
    return play(steps, lambda texts, rest: rank(texts, rest) < goal)


def lost_within(library, most):
    return lost_days(library[0], len(library[1]), most).get(sorted_one(library))


def kept_for_ever(library, most):
    return lost_within(library, most) is None


def longer(one, other):
    """Whether one number of days is more than another, None being for ever."""
    return other is not None and (one is None or one > other)


def good_writings(library, most, number):
    if not keep(library[0], left(library, number)):
        return ()
    rows = plain.writings(len(library[1]), most, number)
    days = [lost_within(written(library, number, row), most) for row in rows]
    return tuple(sorted(row for row, day in zip(rows, days) if not any(longer(other, day) for other in days)))


def behind_melting(library, most, number):
    """Within how many days texts are lost if this tablet melts first, None if they are not."""
    rows = good_writings(library, most, number)
    if not rows:
        return 1
    day = lost_within(written(library, number, rows[0]), most)
    return None if day is None else day + 1


def downfall(library, most):
    if lost_within(library, most) is None:
        return None
    days = []
    while plain.keep(*library):
        numbers = range(len(library[1]))
        soonest = min(day for day in (behind_melting(library, most, k) for k in numbers) if day is not None)
        number = [k for k in numbers if behind_melting(library, most, k) == soonest][0]
        rows = good_writings(library, most, number)
        if not rows:
            return tuple(days) + ((number, ()),)
        days.append((number, rows[0]))
        library = written(library, number, rows[0])
    return tuple(days)


def rank_kept(library, most):
    texts, tablets = library
    goals = [goal for goal in range(4) if sorted_one(library) not in ranks_lost(texts, len(tablets), most, goal)]
    return max(goals)


def additions(library, most):
    texts, tablets = library
    for many in range(7 - len(tablets)):
        rows = combinations_with_replacement(plain.all_tablets(texts), many)
        found = tuple(sorted(row for row in rows if kept_for_ever((texts, tablets + row), most)))
        if found:
            return found
    return ()


def is_family(libraries, library, most):
    """Whether a tuple of sorted libraries, all as long as one that it may keep, is a family that keeps it."""
    if list(libraries) != sorted(set(libraries)) or sorted_one(library) not in libraries:
        return False
    if not all(keep(*one) for one in libraries):
        return False
    members = set(libraries)
    for one in libraries:
        if not all(keep(one[0], rest) and behind & members for rest, behind in meltings(one, most, sorted_one)):
            return False
    return True


def kept_libraries(texts, many, most):
    """The ascending tuple of all sorted libraries that are kept for ever."""
    return tuple(sorted(one for one in plain.sorted_libraries(texts, many) if kept_for_ever(one, most)))


@functools.lru_cache(maxsize=None)
def chance_of(library, most, days):
    """The chance that texts are kept, over each melting and the best writing behind it."""
    if days == 0 or not keep(*library):
        return Fraction(int(keep(*library)))
    total = Fraction(0)
    for rest, behind in meltings(library, most, sorted_one):
        if keep(library[0], rest):
            total += max(chance_of(one, most, days - 1) for one in behind)
    return total / len(library[1])


def best_chance(library, most, days):
    chance = chance_of(sorted_one(library), most, days)
    return chance.numerator, chance.denominator


def idle_chance(library, days):
    texts, tablets = library
    rows = list(permutations(range(len(tablets)), days))
    if not rows:
        return 0, 1
    kept = sum(plain.keep(texts, [tablets[k] for k in range(len(tablets)) if k not in row]) for row in rows)
    chance = Fraction(kept, len(rows))
    return chance.numerator, chance.denominator


def word_of(tablet):
    return "".join("abc"[text] for text in tablet) if tablet else "-"


def wrong_place(words, lines):
    """The place of the first word with which no line of those that can be begins, None without one."""
    for place in range(1, len(words) + 1):
        if not any(line[:place] == words[:place] for line in lines):
            return place
    return None if words in lines else len(words) + 1


def lines_of(text):
    """The numbers of the lines with words, and these."""
    rows = [(k, [word for word in row.split(" ") if word != ""]) for k, row in enumerate(text.split("\n"), 1)]
    return [(k, words) for k, words in rows if words]


def read_library(text):
    """The library that a text tells, or the list of the line and the word that cannot stand."""
    texts = None
    tablets = []
    for line, words in lines_of(text):
        if texts is None:
            place = wrong_place(words, [["texts", "1"], ["texts", "2"], ["texts", "3"]])
        else:
            known = {word_of(tablet): tablet for tablet in plain.all_tablets(texts)}
            place = wrong_place(words, [[word] for word in known] if len(tablets) < 6 else [])
        if place is not None:
            return [line, place]
        if texts is None:
            texts = int(words[1])
        else:
            tablets.append(known[words[0]])
    return (texts, tuple(tablets)) if tablets else [len(text.split("\n")) + 1, 1]


def day_words(day):
    return ["melt", str(day[0]), "write", *(str(number) for number in day[1])]


def read_days(library, most, text):
    """The days that a text tells, or the list of the line and the word that cannot stand."""
    every = plain.all_days(len(library[1]), most)
    lines = [day_words(day) for day in every]
    days = []
    for line, words in lines_of(text):
        place = wrong_place(words, lines if len(days) < 60 else [])
        if place is not None:
            return [line, place]
        days.append(every[lines.index(words)])
    return tuple(days)


def tale(library, most, days):
    found = []
    for number, row in days:
        texts, tablets = library
        rest = left(library, number)
        behind = written(library, number, row)
        tame = len(plain.tame(behind, most))
        found.append((tablets[number], plain.rank((texts, rest)), plain.keep(texts, rest), behind[1][number], tame))
        library = behind
    return tuple(found)
