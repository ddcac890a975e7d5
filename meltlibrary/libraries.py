"""Libraries, the sums of their tablets, and what days make of them."""

from meltlibrary.checks import MOST_TEXTS, check_days, check_game, check_library


def mask_of(tablet):
    """A tablet as a number with a bit for each of its texts."""
    # So the sum of tablets is `^` of their numbers.
    return sum([1 << text for text in tablet])


def tablet_of(mask):
    """The tablet of a number that mask_of made."""
    return tuple([text for text in range(MOST_TEXTS) if (mask >> text) & 1])


def library_of(texts, masks):
    """The sorted library of the masks."""
    return texts, tuple(sorted([tablet_of(mask) for mask in masks]))


def sorted_library(library):
    """The library with its tablets in ascending order."""
    return library[0], tuple(sorted(library[1]))


def masks_of(library):
    """The tablets of a library as a new list of numbers."""
    return [mask_of(tablet) for tablet in library[1]]


def sum_at(masks, numbers):
    """The sum of the tablets of these numbers."""
    whole = 0
    for number in numbers:
        whole = whole ^ masks[number]
    return whole


def all_sums(masks):
    """All unlike sums of any of the masks."""
    sums = [0]
    for mask in masks:
        # A mask that is a sum of those ahead makes no sum that is not there already.
        if mask not in sums:
            sums = sums + [mask ^ other for other in sums]
    return sums


def rank_of(masks):
    """The least number of the masks of which all others are sums."""
    # Each mask that is no sum of those ahead doubles the sums.
    return len(all_sums(masks)).bit_length() - 1


def keep_all(masks, texts):
    """Whether so many texts are all kept by the masks."""
    return rank_of(masks) == texts


def without(masks, number):
    """The masks that are left when one melts."""
    return masks[:number] + masks[number + 1:]


def choices(numbers, most):
    """The ascending list of the tuples of at most so many of ascending numbers."""
    rows = [()]
    for number in numbers:
        rows = rows + [row + (number,) for row in rows if len(row) < most]
    return sorted(rows)


def spanned(library):
    """The ascending tuple of all sums of any of its tablets."""
    check_library(library)
    return tuple(sorted([tablet_of(mask) for mask in all_sums(masks_of(library))]))


def rank(library):
    """The least number of its tablets of which all others are sums."""
    check_library(library)
    return rank_of(masks_of(library))


def keeps(library):
    """Whether each tablet of one text is a sum of its tablets."""
    check_library(library)
    return keep_all(masks_of(library), library[0])


def lacking(library):
    """The ascending tuple of the texts whose tablet is no sum of its tablets."""
    check_library(library)
    sums = all_sums(masks_of(library))
    return tuple([text for text in range(library[0]) if (1 << text) not in sums])


def after(library, most, days):
    """The library behind the days."""
    check_game(library, most)
    check_days(days, len(library[1]), most)
    masks = masks_of(library)
    for number, others in days:
        masks[number] = sum_at(masks, others)
    return library[0], tuple([tablet_of(mask) for mask in masks])


def lost_on(library, most, days):
    """The number of the first day on which texts are lost by the melting, None without one."""
    check_game(library, most)
    check_days(days, len(library[1]), most)
    masks = masks_of(library)
    for index, (number, others) in enumerate(days):
        if not keep_all(without(masks, number), library[0]):
            return index
        masks[number] = sum_at(masks, others)
    return None
