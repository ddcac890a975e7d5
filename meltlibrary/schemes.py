"""Tame tablets, rings, and schemes: libraries that keep texts for ever."""

from meltlibrary.checks import MOST_TEXTS, check_counts, check_game, check_most, check_number
from meltlibrary.errors import NoScheme
from meltlibrary.libraries import choices, keep_all, mask_of, masks_of, sum_at, tablet_of


def is_tame(masks, most, number):
    """Whether one of the masks is the sum of at most so many others."""
    others = [other for other in range(len(masks)) if other != number]
    return any(sum_at(masks, row) == masks[number] for row in choices(others, most))


def is_ring(masks, row):
    """Whether the sum of a row of numbers is void, and that of no lesser part of it."""
    if not row or sum_at(masks, row) != 0:
        return False
    # The part of none is left out: its sum is void in any row.
    lesser = [part for part in choices(row, len(row) - 1) if part]
    return all(sum_at(masks, part) != 0 for part in lesser)


def are_scheme(masks, texts, most):
    """Whether the masks are those of a scheme."""
    if not keep_all(masks, texts):
        return False
    return all(is_tame(masks, most, number) for number in range(len(masks)))


def every_tablet(texts):
    """The ascending list of all tablets of so many texts."""
    return sorted([tablet_of(mask) for mask in range(1 << texts)])


def sorted_rows(kinds, many):
    """The ascending list of all rows of so many of ascending kinds, like ones side by side."""
    rows = [()]
    for _ in range(many):
        rows = [row + (kind,) for row in rows for kind in kinds if not row or row[-1] <= kind]
    return rows


def least_tablets(texts, most):
    """The least number of tablets of a scheme of so many texts."""
    return texts + (texts + most - 1) // most


def tame(library, most):
    """The ascending tuple of the numbers of the tame tablets."""
    check_game(library, most)
    masks = masks_of(library)
    return tuple([number for number in range(len(masks)) if is_tame(masks, most, number)])


def rings(library, most):
    """The ascending tuple of all rings."""
    check_game(library, most)
    masks = masks_of(library)
    return tuple([row for row in choices(list(range(len(masks))), most + 1) if is_ring(masks, row)])


def is_scheme(library, most):
    """Whether a library keeps all texts and all of its tablets are tame."""
    check_game(library, most)
    return are_scheme(masks_of(library), library[0], most)


def can_be(texts, tablets, most):
    """Whether there is a scheme of so many texts and tablets."""
    check_counts(texts, tablets)
    check_most(most)
    return tablets >= least_tablets(texts, most)


def scheme(texts, tablets, most):
    """A scheme of so many texts and tablets."""
    if not can_be(texts, tablets, most):
        raise NoScheme("no scheme has so many texts and tablets")
    # Each most texts make a ring with one tablet of their sum; void ones are tame by themselves.
    single = [(text,) for text in range(texts)]
    closing = [tuple(range(low, min(low + most, texts))) for low in range(0, texts, most)]
    void = [()] * (tablets - len(single) - len(closing))
    return texts, tuple(single + closing + void)


def schemes(texts, tablets, most):
    """The ascending tuple of all sorted schemes of so many texts and tablets."""
    check_counts(texts, tablets)
    check_most(most)
    found = []
    for row in sorted_rows(every_tablet(texts), tablets):
        if are_scheme([mask_of(tablet) for tablet in row], texts, most):
            found.append((texts, row))
    return tuple(found)


def count_schemes(texts, tablets, most):
    """How many sorted schemes of so many texts and tablets there are."""
    return len(schemes(texts, tablets, most))


def fewest_tablets(texts, most):
    """The least number of tablets with which there is a scheme of so many texts."""
    check_number(texts, 1, MOST_TEXTS)
    check_most(most)
    return least_tablets(texts, most)
