"""Rewriting tablets as they were, and how often others are read for it."""

from meltlibrary.checks import MOST_TABLETS, check_game, check_melting_row, check_tablet, is_writing
from meltlibrary.errors import TooMany
from meltlibrary.libraries import choices, masks_of, sum_at

MOST_READS = 200000
# How often each tablet is read is kept in one integer, in as many bits for each tablet.
BITS = 4


def rows_of_sum(masks, most, number):
    """The ascending list of the rows of at most so many other numbers whose sum is the mask of this one."""
    others = [other for other in range(len(masks)) if other != number]
    return [row for row in choices(others, most) if sum_at(masks, row) == masks[number]]


def reads_of(row):
    """How often each tablet is read for a rewriting, in one integer."""
    return sum([1 << (BITS * number) for number in row])


def most_read(reads):
    """How often the tablet is read that is read most often."""
    return max([(reads >> (BITS * number)) & ((1 << BITS) - 1) for number in range(MOST_TABLETS)])


def reads_by_day(masks, most, row):
    """For each beginning of a row all that can be read for it, with the last rewriting of it.

    The last one is void for a row with a wild tablet in it.
    """
    days = [{0: ()}]
    for number in row:
        last = days[-1]
        pairs = [(reads_of(one), one) for one in rows_of_sum(masks, most, number)]
        # Any of the rewritings that lead to the same reads serves as well.
        behind = {reads + more: one for reads in last for more, one in pairs}
        days.append(behind)
    if len(days[-1]) > MOST_READS:
        raise TooMany(MOST_READS)
    return days


def rewritings(library, most, number):
    """The ascending tuple of the rows of at most so many other numbers whose sum is the tablet."""
    check_game(library, most)
    check_tablet(number, len(library[1]))
    return tuple(rows_of_sum(masks_of(library), most, number))


def fewest_reads(library, most, number):
    """The least number of tablets that are read to rewrite the tablet, None for a wild one."""
    return min([len(row) for row in rewritings(library, most, number)], default=None)


def least_wear(library, most, row):
    """The least possible number of times that one tablet is read over all of a row, None for a wild one in it."""
    check_game(library, most)
    check_melting_row(row, len(library[1]))
    days = reads_by_day(masks_of(library), most, row)
    return min([most_read(reads) for reads in days[-1]], default=None)


def even_writings(library, most, row):
    """A rewriting for each of a row by which no tablet is read more often than must be, None for a wild one."""
    check_game(library, most)
    check_melting_row(row, len(library[1]))
    days = reads_by_day(masks_of(library), most, row)
    if not days[-1]:
        return None
    reads = min(list(days[-1]), key=most_read)
    writings = []
    for day in reversed(days[1:]):
        writings.append(day[reads])
        reads = reads - reads_of(day[reads])
    return tuple(writings[::-1])


def are_rewritings(masks, most, row, value):
    """Whether a value is a tuple of a rewriting for each of a row."""
    if not isinstance(value, tuple) or len(value) != len(row):
        return False
    for number, one in zip(row, value):
        if not is_writing(one, number, len(masks), most) or sum_at(masks, one) != masks[number]:
            return False
    return True


def shows_even_writings(library, most, row, value):
    """Whether a value is what even_writings may return."""
    least = least_wear(library, most, row)
    if value is None or least is None:
        return value is None and least is None
    if not are_rewritings(masks_of(library), most, row, value):
        return False
    return most_read(sum([reads_of(one) for one in value])) == least
