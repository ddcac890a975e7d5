"""The document's words worked out slowly and plainly, to compare the program with.

Nothing here is taken from the program: sums are counted text by text, and every
lot of tablets and every tuple of numbers is gone through.
"""

from itertools import combinations, combinations_with_replacement, product

RING = (2, ((0,), (1,), (0, 1)))


def all_tablets(texts):
    """All tablets of so many texts, ascending."""
    numbers = range(texts)
    return sorted(row for size in range(texts + 1) for row in combinations(numbers, size))


def all_libraries(texts, many):
    """All libraries of so many texts and tablets, in any order of their tablets."""
    return [(texts, row) for row in product(all_tablets(texts), repeat=many)]


def sorted_libraries(texts, many):
    """All sorted libraries of so many texts and tablets."""
    return [(texts, row) for row in combinations_with_replacement(all_tablets(texts), many)]


def small_libraries():
    """Many libraries of every number of texts and of tablets."""
    found = []
    for texts, whole in ((1, 6), (2, 4), (3, 3)):
        for many in range(1, whole + 1):
            found.extend(all_libraries(texts, many))
    for many in (5, 6):
        found.extend(sorted_libraries(2, many))
    for many in (4, 5, 6):
        # Turned round, so that they are not all in one order.
        found.extend((3, row[::-1]) for _, row in sorted_libraries(3, many)[::3])
    return found


def sum_of(tablets):
    """The texts that stand in an odd number of the tablets."""
    return tuple(text for text in range(3) if sum(tablet.count(text) for tablet in tablets) % 2)


def parts(rows):
    """All lots of any of the rows' places, the empty one too."""
    return [lot for size in range(len(rows) + 1) for lot in combinations(range(len(rows)), size)]


def sums_of_any(tablets):
    """All sums of any of the tablets, a set."""
    return {sum_of([tablets[k] for k in lot]) for lot in parts(tablets)}


def spanned(library):
    return tuple(sorted(sums_of_any(library[1])))


def rank(library):
    tablets = library[1]
    for lot in parts(tablets):
        sums = sums_of_any([tablets[k] for k in lot])
        if all(tablet in sums for tablet in tablets):
            return len(lot)


def keep(texts, tablets):
    """Whether so many texts are all kept by the tablets."""
    sums = sums_of_any(tablets)
    return all((text,) in sums for text in range(texts))


def lacking(library):
    sums = sums_of_any(library[1])
    return tuple(text for text in range(library[0]) if (text,) not in sums)


def writings(many, most, number):
    """All ascending tuples of at most most numbers of tablets other than this one."""
    numbers = [k for k in range(many) if k != number]
    return [row for size in range(most + 1) for row in combinations(numbers, size)]


def all_days(many, most):
    """All days of a library of so many tablets."""
    return [(number, row) for number in range(many) for row in writings(many, most, number)]


def after(library, days):
    texts, tablets = library
    for number, row in days:
        fresh = sum_of([tablets[k] for k in row])
        tablets = tuple(fresh if k == number else tablets[k] for k in range(len(tablets)))
    return texts, tablets


def lost_on(library, days):
    texts = library[0]
    for index, (number, _) in enumerate(days):
        tablets = after(library, days[:index])[1]
        if not keep(texts, [tablets[k] for k in range(len(tablets)) if k != number]):
            return index
    return None


def tame(library, most):
    tablets = library[1]
    found = []
    for number in range(len(tablets)):
        rows = writings(len(tablets), most, number)
        if any(sum_of([tablets[k] for k in row]) == tablets[number] for row in rows):
            found.append(number)
    return tuple(found)


def rings(library, most):
    tablets = library[1]

    def is_void(lot):
        return sum_of([tablets[k] for k in lot]) == ()

    found = []
    for lot in parts(tablets):
        if 1 <= len(lot) <= most + 1 and is_void(lot):
            lesser = [part for size in range(1, len(lot)) for part in combinations(lot, size)]
            if not any(is_void(part) for part in lesser):
                found.append(lot)
    return tuple(sorted(found))


def is_scheme(library, most):
    whole = tuple(range(len(library[1])))
    return keep(library[0], library[1]) and tame(library, most) == whole


def schemes(texts, many, most):
    return tuple(sorted(lib for lib in sorted_libraries(texts, many) if is_scheme(lib, most)))


class Dice:
    """Numbers that look thrown, the same in every run."""

    def __init__(self, seed):
        self.state = seed

    def below(self, many):
        self.state = (self.state * 1103515245 + 12345) % 2 ** 31
        return (self.state >> 8) % many

    def one_of(self, rows):
        return rows[self.below(len(rows))]
