"""Libraries that are alike worked out slowly by the document's words: all renamings, all mixtures.

Nothing here is taken from the program.
"""

import functools
from itertools import permutations, product

from tests import plain


@functools.lru_cache(maxsize=None)
def renamings(texts):
    """For each renaming the new number of each text."""
    return list(permutations(range(texts)))


@functools.lru_cache(maxsize=None)
def mixtures(texts):
    """For each mixture the tablet of each text."""
    return [row for row in product(plain.all_tablets(texts), repeat=texts) if plain.keep(texts, row)]


def renamed(library, names):
    texts, tablets = library
    return texts, tuple(sorted(tuple(sorted(names[text] for text in tablet)) for tablet in tablets))


def mixed(library, given):
    texts, tablets = library
    return texts, tuple(sorted(plain.sum_of([given[text] for text in tablet]) for tablet in tablets))


@functools.lru_cache(maxsize=None)
def all_renamed(library):
    return frozenset(renamed(library, names) for names in renamings(library[0]))


@functools.lru_cache(maxsize=None)
def all_mixed(library):
    return frozenset(mixed(library, given) for given in mixtures(library[0]))


@functools.lru_cache(maxsize=None)
def schemes(texts, many, most):
    return plain.schemes(texts, many, most)


def named_kinds(texts, many, most):
    return tuple(sorted({min(all_renamed(one)) for one in schemes(texts, many, most)}))


def mixed_kinds(texts, many, most):
    return tuple(sorted({min(all_mixed(one)) for one in schemes(texts, many, most)}))
