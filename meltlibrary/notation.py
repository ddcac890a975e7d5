"""Libraries and days as texts, and the tale of days."""

from meltlibrary.checks import MOST_DAYS, MOST_TABLETS, MOST_TEXTS
from meltlibrary.checks import check_days, check_game, check_library, check_string
from meltlibrary.errors import BadLine
from meltlibrary.libraries import keep_all, masks_of, rank_of, sum_at, tablet_of, without
from meltlibrary.schemes import every_tablet, is_tame

LETTERS = "abc"
VOID = "-"


def word_of(tablet):
    """The word of a tablet."""
    return "".join([LETTERS[text] for text in tablet]) or VOID


def worded_lines(text):
    """The list of the lines that are not void: the number of each, from 1 on, and its words."""
    found = []
    for line, row in enumerate(text.split("\n"), start=1):
        words = [word for word in row.split(" ") if word]
        if words:
            found.append((line, words))
    return found


def check_words(line, words, wanted):
    """Raise BadLine for the first word that is lacking or not among those that are wanted in its place."""
    for place, allowed in enumerate(wanted):
        if place == len(words) or words[place] not in allowed:
            raise BadLine(line, place + 1)


def check_no_more(line, words, many):
    """Raise BadLine for a word behind so many."""
    if len(words) > many:
        raise BadLine(line, many + 1)


def write_library(library):
    """The text of a library."""
    check_library(library)
    texts, tablets = library
    return "\n".join([f"texts {texts}"] + [word_of(tablet) for tablet in tablets])


def read_texts(line, words):
    """The number of texts that a line tells."""
    check_words(line, words, [["texts"], [str(many) for many in range(1, MOST_TEXTS + 1)]])
    check_no_more(line, words, 2)
    return int(words[1])


def read_tablets(rows, texts):
    """The list of the tablets that lines tell."""
    known = {word_of(tablet): tablet for tablet in every_tablet(texts)}
    tablets = []
    for line, words in rows:
        if words[0] not in known or len(tablets) == MOST_TABLETS:
            raise BadLine(line, 1)
        check_no_more(line, words, 1)
        tablets.append(known[words[0]])
    return tablets


def read_library(text):
    """The library that a text tells."""
    check_string(text)
    rows = worded_lines(text)
    if rows:
        line, words = rows[0]
        texts = read_texts(line, words)
        tablets = read_tablets(rows[1:], texts)
        if tablets:
            return texts, tuple(tablets)
    # There is one line more than newlines, and the word that lacks would stand behind them all.
    raise BadLine(text.count("\n") + 2, 1)


def write_days(library, most, days):
    """The text of days."""
    check_game(library, most)
    check_days(days, len(library[1]), most)
    lines = []
    for number, others in days:
        lines.append(" ".join(["melt", str(number), "write"] + [str(other) for other in others]))
    return "\n".join(lines)


def read_day(line, words, many, most):
    """The day that a line tells."""
    figures = [str(number) for number in range(many)]
    check_words(line, words, [["melt"], figures, ["write"]])
    melted = int(words[1])
    others = []
    for place, word in enumerate(words[3:], start=4):
        if word not in figures or len(others) == most:
            raise BadLine(line, place)
        if int(word) == melted or int(word) <= max(others, default=-1):
            raise BadLine(line, place)
        others.append(int(word))
    return melted, tuple(others)


def read_days(library, most, text):
    """The days that a text tells."""
    check_game(library, most)
    check_string(text)
    days = []
    for line, words in worded_lines(text):
        if len(days) == MOST_DAYS:
            raise BadLine(line, 1)
        days.append(read_day(line, words, len(library[1]), most))
    return tuple(days)


def tale(library, most, days):
    """What each day brings: what melts, the rank left, whether texts are kept, what is written, how many are tame."""
    check_game(library, most)
    check_days(days, len(library[1]), most)
    masks = masks_of(library)
    told = []
    for number, others in days:
        melted = masks[number]
        left = without(masks, number)
        masks[number] = sum_at(masks, others)
        tame_ones = [place for place in range(len(masks)) if is_tame(masks, most, place)]
        kept = keep_all(left, library[0])
        told.append((tablet_of(melted), rank_of(left), kept, tablet_of(masks[number]), len(tame_ones)))
    return tuple(told)
