"""Contents of texts, what tablets show of them, and tablets that are misread."""

from meltlibrary.checks import MOST_WRONG, check_game, check_library, check_number, check_shown
from meltlibrary.schemes import rings


def every_contents(texts):
    """The ascending list of all contents of so many texts."""
    rows = [()]
    for _ in range(texts):
        rows = [row + (figure,) for row in rows for figure in (0, 1)]
    return rows


def shown_by(library, contents):
    """The row that the tablets of a library show."""
    return tuple([sum([contents[text] for text in tablet]) % 2 for tablet in library[1]])


def unlike_places(one, other):
    """How many figures of two rows are unlike."""
    return len([place for place in range(len(one)) if one[place] != other[place]])


def least_apart(library):
    """The least number of tablets that show unlike, over all pairs of unlike contents."""
    # Two contents show as unlike as their sum and contents of nothing but 0 do.
    return min([sum(shown_by(library, contents)) for contents in every_contents(library[0])[1:]])


def shown(library, contents):
    """The row that the tablets of a library show of the contents."""
    check_library(library)
    check_shown(contents, library[0])
    return shown_by(library, contents)


def apart(library):
    """The least number of tablets that show unlike, over all pairs of unlike contents."""
    check_library(library)
    return least_apart(library)


def can_tell(library, wrong):
    """Whether no at most so many misreadings make what some contents show look like what others show."""
    check_library(library)
    check_number(wrong, 0, MOST_WRONG)
    return least_apart(library) > wrong


def can_right(library, wrong):
    """Whether behind at most so many misreadings no other contents could look so by at most so many."""
    check_library(library)
    check_number(wrong, 0, MOST_WRONG)
    return least_apart(library) > 2 * wrong


def contents_told(library, row, wrong):
    """The ascending tuple of the contents that look like a row by at most so many misreadings."""
    check_library(library)
    check_shown(row, len(library[1]))
    check_number(wrong, 0, MOST_WRONG)
    every = every_contents(library[0])
    return tuple([contents for contents in every if unlike_places(shown_by(library, contents), row) <= wrong])


def fewest_wrong(library, row):
    """The least number of misreadings by which some contents look like a row."""
    check_library(library)
    check_shown(row, len(library[1]))
    return min([unlike_places(shown_by(library, contents), row) for contents in every_contents(library[0])])


def failing_rings(library, most, row):
    """The ascending tuple of the rings in which the sum of what is read is odd."""
    check_game(library, most)
    check_shown(row, len(library[1]))
    return tuple([ring for ring in rings(library, most) if sum([row[number] for number in ring]) % 2 == 1])
