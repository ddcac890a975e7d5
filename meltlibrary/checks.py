"""What every function asks of its arguments."""

from meltlibrary.errors import BadDays, BadLibrary, BadMost, BadNumber, BadShown, BadString, BadTablet

MOST_TEXTS = 3
MOST_TABLETS = 6
MOST_WRITTEN_FROM = 3
MOST_DAYS = 60
MOST_MELTS = 3
MOST_LATE = 3
MOST_WRONG = 6
MOST_MELTINGS = 8


def is_within(value, low, high):
    """Whether a value is an integer from low to high."""
    # Python counts True and False among the integers, the document does not.
    return isinstance(value, int) and not isinstance(value, bool) and low <= value <= high


def is_pair(value):
    """Whether a value is a tuple of two."""
    return isinstance(value, tuple) and len(value) == 2


def is_ascending(value, many):
    """Whether a value is an ascending tuple of unlike integers from 0 on, all below many."""
    if not isinstance(value, tuple):
        return False
    low = 0
    for number in value:
        if not is_within(number, low, many - 1):
            return False
        low = number + 1
    return True


def are_tablets(value, texts):
    """Whether a value is a tuple of tablets of so many texts, as long as a library's."""
    if not isinstance(value, tuple) or not 1 <= len(value) <= MOST_TABLETS:
        return False
    return all(is_ascending(tablet, texts) for tablet in value)


def wrong_part(value):
    """The name of the first part of a value by which it is no library, None for a library."""
    if not is_pair(value):
        return "library"
    texts, tablets = value
    if not is_within(texts, 1, MOST_TEXTS):
        return "texts"
    if not are_tablets(tablets, texts):
        return "tablets"
    return None


def check_library(library):
    """Raise BadLibrary for a value that is no library."""
    part = wrong_part(library)
    if part is not None:
        raise BadLibrary(part)


def check_most(most):
    """Raise BadMost for a value that is no most."""
    if not is_within(most, 1, MOST_WRITTEN_FROM):
        raise BadMost("most is an integer from 1 to 3")


def check_game(library, most):
    """Raise the error of the first of both that is not allowed."""
    check_library(library)
    check_most(most)


def check_number(number, low, high):
    """Raise BadNumber for a value that is no integer from low to high."""
    if not is_within(number, low, high):
        raise BadNumber(f"not an integer from {low} to {high}")


def check_counts(texts, tablets):
    """Raise BadNumber for a number of texts or of tablets that no library has."""
    check_number(texts, 1, MOST_TEXTS)
    check_number(tablets, 1, MOST_TABLETS)


def check_flood(library, most, melts):
    """Raise the error of the first of the three that is not allowed."""
    check_game(library, most)
    check_number(melts, 1, min(MOST_MELTS, len(library[1])))


def check_tablet(number, many):
    """Raise BadTablet for a value that is no number of one of so many tablets."""
    if not is_within(number, 0, many - 1):
        raise BadTablet(f"no number of a tablet, which is from 0 to {many - 1}")


def check_string(text):
    """Raise BadString for a value that is no string."""
    if not isinstance(text, str):
        raise BadString("not a string")


def is_writing(value, number, many, most):
    """Whether a value is what can be written in place of the tablet of a number, of so many."""
    return is_ascending(value, many) and len(value) <= most and number not in value


def is_day(value, many, most):
    """Whether a value is a day of a library of so many tablets."""
    if not is_pair(value):
        return False
    number, others = value
    return is_within(number, 0, many - 1) and is_writing(others, number, many, most)


def check_days(days, many, most):
    """Raise BadDays for a value that is no days of a library of so many tablets."""
    if not isinstance(days, tuple) or len(days) > MOST_DAYS:
        raise BadDays(None)
    for index, day in enumerate(days):
        if not is_day(day, many, most):
            raise BadDays(index)


def check_melting_row(row, many):
    """Raise BadDays for a value that is no melting row of a library of so many tablets."""
    if not isinstance(row, tuple) or len(row) > MOST_MELTINGS:
        raise BadDays(None)
    for index, number in enumerate(row):
        if not is_within(number, 0, many - 1):
            raise BadDays(index)


def check_shown(value, many):
    """Raise BadShown for a value that is no tuple of so many figures, each 0 or 1."""
    if not isinstance(value, tuple) or len(value) != many:
        raise BadShown(f"no tuple of {many}")
    if not all(is_within(figure, 0, 1) for figure in value):
        raise BadShown("not each one is 0 or 1")
