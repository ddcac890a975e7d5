"""Misreadings worked out slowly by the document's words: all contents, all misreadings.

Nothing here is taken from the program.
"""

from itertools import combinations, product

from tests import plain


def all_contents(texts):
    return list(product((0, 1), repeat=texts))


def shown(library, contents):
    found = []
    for tablet in library[1]:
        total = 0
        for text in tablet:
            total += contents[text]
        found.append(1 if total in (1, 3) else 0)
    return tuple(found)


def misread(row, lot):
    """The row with the other one read of each tablet of a lot."""
    return tuple(1 - figure if k in lot else figure for k, figure in enumerate(row))


def all_read(row, wrong):
    """All rows that at most so many misreadings make of one."""
    lots = [lot for size in range(min(wrong, len(row)) + 1) for lot in combinations(range(len(row)), size)]
    return {misread(row, lot) for lot in lots}


def apart(library):
    pairs = combinations(all_contents(library[0]), 2)
    return min(sum(a != b for a, b in zip(shown(library, one), shown(library, other))) for one, other in pairs)


def can_tell(library, wrong):
    for one in all_contents(library[0]):
        for other in all_contents(library[0]):
            if one != other and shown(library, other) in all_read(shown(library, one), wrong):
                return False
    return True


def can_right(library, wrong):
    seen = {}
    for contents in all_contents(library[0]):
        for row in all_read(shown(library, contents), wrong):
            if seen.setdefault(row, contents) != contents:
                return False
    return True


def contents_told(library, row, wrong):
    every = all_contents(library[0])
    return tuple(sorted(contents for contents in every if row in all_read(shown(library, contents), wrong)))


def fewest_wrong(library, row):
    wrong = 0
    while not contents_told(library, row, wrong):
        wrong += 1
    return wrong


def failing_rings(library, most, row):
    return tuple(ring for ring in plain.rings(library, most) if sum(row[k] for k in ring) % 2)
