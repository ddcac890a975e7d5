"""What every function asks of its arguments."""

from meltlibrary.errors import BadDays, BadLibrary, BadMost, BadNumber

MOST_TEXTS = 3
MOST_TABLETS = 6
MOST_WRITTEN_FROM = 3
MOST_DAYS = 60


def is_within(value, low, high):
    """Whether a value is an integer from low to high."""
    # Python counts True and False among the integers, the document does not.
    return isinstance(value, int) and not isinstance(value, bool) and low <= value <= high


def is_pair(value):
    """Whether a value is a tuple of two."""
    return isinstance(value, tuple) and len(value) == 2


def is_ascending(value, many):
    """Whether a value is an ascending tuple of unlike integers from 0 on, all below many."""
    if not isinstance(value, tuple):
        return False
    low = 0
    for number in value:
        if not is_within(number, low, many - 1):
            return False
        low = number + 1
    return True


def are_tablets(value, texts):
    """Whether a value is a tuple of tablets of so many texts, as long as a library's."""
    if not isinstance(value, tuple) or not 1 <= len(value) <= MOST_TABLETS:
        return False
    return all(is_ascending(tablet, texts) for tablet in value)


def check_library(library):
    """Raise BadLibrary for a value that is no library."""
    if not is_pair(library):
        raise BadLibrary("library")
    texts, tablets = library
    if not is_within(texts, 1, MOST_TEXTS):
        raise BadLibrary("texts")
    if not are_tablets(tablets, texts):
        raise BadLibrary("tablets")


def check_most(most):
    """Raise BadMost for a value that is no most."""
    if not is_within(most, 1, MOST_WRITTEN_FROM):
        raise BadMost("most is an integer from 1 to 3")


def check_number(number, low, high):
    """Raise BadNumber for a value that is no integer from low to high."""
    if not is_within(number, low, high):
        raise BadNumber(f"not an integer from {low} to {high}")


def check_counts(texts, tablets):
    """Raise BadNumber for a number of texts or of tablets that no library has."""
    check_number(texts, 1, MOST_TEXTS)
    check_number(tablets, 1, MOST_TABLETS)


def is_day(value, many, most):
    """Whether a value is a day of a library of so many tablets."""
    if not is_pair(value):
        return False
    number, others = value
    if not is_within(number, 0, many - 1) or not is_ascending(others, many):
        return False
    return len(others) <= most and number not in others


def check_days(days, many, most):
    """Raise BadDays for a value that is no days of a library of so many tablets."""
    if not isinstance(days, tuple) or len(days) > MOST_DAYS:
        raise BadDays(None)
    for index, day in enumerate(days):
        if not is_day(day, many, most):
            raise BadDays(index)
