"""Libraries that are alike but for names or a mixture, and the numbers of schemes."""

from meltlibrary.checks import check_game, check_library, check_number
from meltlibrary.errors import NoScheme
from meltlibrary.libraries import keep_all, library_of, sorted_library, sum_at
from meltlibrary.schemes import is_scheme, schemes


def ways_to_give(masks, texts):
    """All tuples of one of the masks for each text by which all texts are kept."""
    rows = [()]
    for _ in range(texts):
        rows = [row + (mask,) for row in rows for mask in masks]
    return [row for row in rows if keep_all(row, texts)]


def renamings(texts):
    """All renamings of so many texts: mixtures that give each text a tablet of one text."""
    return ways_to_give([1 << text for text in range(texts)], texts)


def mixtures(texts):
    """All mixtures of so many texts."""
    return ways_to_give(list(range(1 << texts)), texts)


def alike_ones(library, ways):
    """The list of the sorted libraries that ways to give each text a tablet make of a library."""
    texts, tablets = library
    return [library_of(texts, [sum_at(given, tablet) for tablet in tablets]) for given in ways]


def least_ones(libraries, ways):
    """The tuple of the libraries that are the least of all that are alike to them."""
    found = []
    seen = set()
    # The libraries ascend, and all that are alike to one are among them: the first is the least.
    for library in libraries:
        if library not in seen:
            found.append(library)
            for other in alike_ones(library, ways):
                seen.add(other)
    return tuple(found)


def are_named_alike(one, other):
    """Whether some renaming of the texts of one makes its sorted library that of the other."""
    check_library(one)
    check_library(other)
    return sorted_library(other) in alike_ones(one, renamings(one[0]))


def are_mixed_alike(one, other):
    """Whether some mixture of the texts of one makes its sorted library that of the other."""
    check_library(one)
    check_library(other)
    return sorted_library(other) in alike_ones(one, mixtures(one[0]))


def least_named(library):
    """The least sorted library that a renaming makes of a library."""
    check_library(library)
    return min(alike_ones(library, renamings(library[0])))


def least_mixed(library):
    """The least sorted library that a mixture makes of a library."""
    check_library(library)
    return min(alike_ones(library, mixtures(library[0])))


def named_kinds(texts, tablets, most):
    """The ascending tuple of the least libraries that renamings make of all schemes."""
    return least_ones(schemes(texts, tablets, most), renamings(texts))


def mixed_kinds(texts, tablets, most):
    """The ascending tuple of the least libraries that mixtures make of all schemes."""
    return least_ones(schemes(texts, tablets, most), mixtures(texts))


def scheme_number(library, most):
    """The place of the sorted library among all sorted schemes of as many texts and tablets."""
    check_game(library, most)
    if not is_scheme(library, most):
        raise NoScheme("the library is no scheme")
    texts, tablets = library
    return schemes(texts, len(tablets), most).index(sorted_library(library))


def scheme_told(texts, tablets, most, number):
    """The sorted scheme of a number among all of so many texts and tablets."""
    found = schemes(texts, tablets, most)
    check_number(number, 0, len(found) - 1)
    return found[number]
