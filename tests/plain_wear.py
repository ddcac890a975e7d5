"""Rewritings and wear worked out slowly by the document's words: all choices of rewritings.

Nothing here is taken from the program.
"""

from itertools import product

from tests import plain


def rewritings(library, most, number):
    tablets = library[1]
    rows = plain.writings(len(tablets), most, number)
    return tuple(sorted(row for row in rows if plain.sum_of([tablets[k] for k in row]) == tablets[number]))


def wear(library, writings):
    """How often the tablet is read that is read most often."""
    return max(sum(row.count(number) for row in writings) for number in range(len(library[1])))


def all_choices(library, most, row):
    """All tuples of a rewriting for each of a row."""
    return list(product(*[rewritings(library, most, number) for number in row]))


def least_wear(library, most, row):
    return min((wear(library, writings) for writings in all_choices(library, most, row)), default=None)


def reads(library, most, row):
    """All unlike tuples of how often each tablet is read."""
    many = range(len(library[1]))
    return {tuple(sum(one.count(k) for one in writings) for k in many) for writings in all_choices(library, most, row)}
