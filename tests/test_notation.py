"""Points 1, 40 and 41 and the heading meltlibrary/notation.py."""

import unittest

from meltlibrary import notation
from meltlibrary.errors import BadDays, BadLibrary, BadLine, BadMost, BadString
from meltlibrary.notation import read_days, read_library, tale, write_days, write_library
from tests import plain, plain_games
from tests.cases import CallChecks, raised
from tests.plain import RING
from tests.wrong import days_errors, library_errors, most_errors, string_errors

LISTED = {
    "write_library": "library",
    "read_library": "text",
    "write_days": "library most days",
    "read_days": "library most text",
    "tale": "library most days",
}
FOUR = (3, ((0,), (1,), (2,), (0, 1, 2)))
# Words and signs that could be taken for others.
ODD = [
    "texts", "text", "Texts", "TEXTS", "texts:", "texts1", "0", "1", "2", "3", "4", "5", "6", "7", "9", "01", "1.", "+1", "-1",
    "1_0", "10", "12", "\u0661", "\u00b2", "\uff11", "a", "b", "c", "d", "A", "ab", "ba", "aa", "abc", "acb", "bc", "cb", "ac",
    "a-", "-", "--", "-a", "\u2013", "_", "()", "''", "None", "melt", "melts", "Melt", "write", "writes", "WRITE", ",", "0,",
    "1,2", "a\tb", "\t", "\r", "a\r", "1\r", "write\r", "\x0b", "\x0c", "\x00", "\u00a0", "\u2028", "\x85", "#", "{}", "%s",
]


class TextChecks(CallChecks):
    def check_line(self, function, arguments, line, word):
        self.check_error(function, arguments, BadLine, {"line": line, "word": word})
        kind, fields = raised(function, arguments)
        self.assertEqual([type(value) for value in fields.values()], [int, int])

    def check_read(self, function, arguments, wanted):
        """The answer, or the line and the word of the error where wanted is a list."""
        if type(wanted) is list:
            self.check_error(function, arguments, BadLine, dict(zip(("line", "word"), wanted)))
        else:
            self.check_answer(function, arguments, wanted)


class ExamplesTest(TextChecks, unittest.TestCase):
    def test_interface(self):
        self.check_interface(notation, LISTED)

    def test_values(self):
        self.check_answer(write_library, (RING,), "texts 2\na\nb\nab")
        self.check_answer(read_library, ("texts 1\n-\na",), (1, ((), (0,))))
        self.check_answer(tale, (RING, 2, ((2, ()),)), (((0, 1), 2, True, (), 1),))

    def test_error(self):
        self.check_line(read_library, ("texts 2\nab\nba",), 3, 1)

    def test_by_keywords(self):
        self.assertEqual(write_library(library=RING), "texts 2\na\nb\nab")
        self.assertEqual(read_library(text="texts 1\na"), (1, ((0,),)))
        self.assertEqual(write_days(days=((0, ()),), most=1, library=RING), "melt 0 write")
        self.assertEqual(read_days(text="melt 0 write", most=1, library=RING), ((0, ()),))
        self.assertEqual(tale(days=(), most=1, library=RING), ())


class WrongTest(TextChecks, unittest.TestCase):
    def test_wrong_arguments(self):
        self.check_wrong(write_library, (RING,), [library_errors()])
        self.check_wrong(read_library, ("texts 1\na",), [string_errors()])
        days = ((0, (1,)),)
        for function in (write_days, tale):
            self.check_wrong(function, (RING, 1, days), [library_errors(), most_errors(), days_errors()])
        self.check_wrong(read_days, (RING, 1, "melt 0 write 1"), [library_errors(), most_errors(), string_errors()])

    def test_leftmost_of_three(self):
        for function in (write_days, read_days, tale):
            self.check_error(function, ((2, []), 0, None), BadLibrary, {"part": "tablets"})
            self.check_error(function, (RING, 0, None), BadMost, {})
        self.check_error(read_days, (RING, 0, "x"), BadMost, {})
        self.check_error(read_days, (None, 1, "x"), BadLibrary, {"part": "library"})
        self.check_error(read_days, (RING, 1, None), BadString, {})

    def test_sixty_one_days(self):
        day = (0, (1, 2))
        for function in (write_days, tale):
            self.assertEqual(raised(function, (RING, 2, (day,) * 60)), None)
            self.check_error(function, (RING, 2, (day,) * 61), BadDays, {"index": None})


class WriteLibraryTest(TextChecks, unittest.TestCase):
    """Point 40, write_library."""

    def test_all_tablets(self):
        self.check_answer(write_library, ((1, ((),)),), "texts 1\n-")
        self.check_answer(write_library, ((1, ((0,),)),), "texts 1\na")
        self.check_answer(write_library, ((3, ((), (0, 1, 2), (2,), (0, 2), (1, 2), ())),), "texts 3\n-\nabc\nc\nac\nbc\n-")
        self.check_answer(write_library, ((2, ((0, 1), (0, 1))),), "texts 2\nab\nab")

    def test_what_is_written_is_read_back(self):
        for library in plain.small_libraries():
            text = write_library(library)
            self.assertEqual(text.split("\n"), [f"texts {library[0]}", *map(plain_games.word_of, library[1])])
            self.assertEqual(repr(read_library(text)), repr(library))


class ReadLibraryTest(TextChecks, unittest.TestCase):
    """Point 40, read_library."""

    def check_text(self, text, line, word):
        self.check_line(read_library, (text,), line, word)

    def test_spaces_and_void_lines(self):
        wanted = (2, ((0,), (), (0, 1)))
        for text in (
            "texts 2\na\n-\nab", "texts 2\na\n-\nab\n", "\n\ntexts 2\na\n-\nab", "texts 2\n\na\n\n\n-\nab\n\n",
            "  texts   2  \n a\n-  \n   ab   ", " \n   \ntexts 2 \n  \na\n \n-\n\nab\n  ",
        ):
            self.check_answer(read_library, (text,), wanted)

    def test_only_spaces_and_newlines_part_words_and_lines(self):
        for sign in ("\t", "\r", "\x0b", "\x0c", "\u00a0", "\u2003", "\x1c"):
            self.check_text(f"texts{sign}2\na", 1, 1)
            self.check_text(f"texts 2{sign}\na", 1, 2)
            self.check_text(f"texts 2 {sign}\na", 1, 3)
            self.check_text(f"texts 2\na{sign}", 2, 1)
            self.check_text(f"texts 2\na {sign}", 2, 2)
            self.check_text(f"{sign}\ntexts 2\na", 1, 1)
            self.check_text(f"texts 2{sign}a", 1, 2)

    def test_the_first_line(self):
        self.check_text("text 2\na", 1, 1)
        self.check_text("2\na", 1, 1)
        self.check_text("Texts 2\na", 1, 1)
        self.check_text("texts2\na", 1, 1)
        self.check_text("a\ntexts 2", 1, 1)
        self.check_text("texts\na", 1, 2)
        self.check_text("texts", 1, 2)
        self.check_text("texts \n2\na", 1, 2)
        for word in ("0", "4", "01", "1.", "+1", "12", "-1", "a", "-", "one", "\u0661", "\u00b9", "\uff12", "texts"):
            self.check_text(f"texts {word}\na", 1, 2)
        self.check_text("texts 2 a", 1, 3)
        self.check_text("texts 2 2\na", 1, 3)
        self.check_text("texts 2 -\na b", 1, 3)
        self.check_text("\n \n texts 9 9\n", 3, 2)
        self.check_text("\n\n\n9\n", 4, 1)

    def test_words_that_are_no_tablet_of_these_texts(self):
        for word in ("ba", "aa", "abb", "acb", "d", "A", "--", "a-", "-a", "0", "1", "()", "texts", "ab,", "_", "\u0430"):
            for texts in (1, 2, 3):
                self.check_text(f"texts {texts}\na\n-\n{word}", 4, 1)
        self.check_text("texts 1\nb", 2, 1)
        self.check_text("texts 1\nab", 2, 1)
        self.check_text("texts 2\nab\nc", 3, 1)
        self.check_text("texts 2\n\n\nac", 4, 1)
        self.check_text("texts 2\nabc", 2, 1)
        self.check_answer(read_library, ("texts 3\nabc\nc",), (3, ((0, 1, 2), (2,))))

    def test_a_second_word(self):
        self.check_text("texts 2\na b", 2, 2)
        self.check_text("texts 2\na\n - a x", 3, 2)
        self.check_text("texts 2\nba b", 2, 1)
        self.check_text("texts 2\na\nb a\nx", 3, 2)

    def test_a_seventh_tablet(self):
        six = "texts 1\na\na\n-\na\na\n-"
        self.check_answer(read_library, (six,), (1, ((0,), (0,), (), (0,), (0,), ())))
        self.check_answer(read_library, (six + "\n \n\n",), (1, ((0,), (0,), (), (0,), (0,), ())))
        self.check_text(six + "\na", 8, 1)
        self.check_text(six + "\n\n x x", 9, 1)
        self.check_text(six + "\na a", 8, 1)
        self.check_text(six + "\na\na", 8, 1)
        self.check_text(six + " a\na", 7, 2)

    def test_without_a_tablet(self):
        # Lines are parted by newlines, so that the void text is one void line.
        self.check_text("", 2, 1)
        self.check_text("   ", 2, 1)
        self.check_text("\n", 3, 1)
        self.check_text(" \n\n ", 4, 1)
        for texts in (1, 2, 3):
            self.check_text(f"texts {texts}", 2, 1)
            self.check_text(f"texts {texts}\n", 3, 1)
            self.check_text(f"\n texts  {texts} \n\n", 5, 1)

    def test_line_by_line(self):
        self.check_text("texts 2\na a\nx\ny", 2, 2)
        self.check_text("texts 2\nx\na a", 2, 1)
        self.check_text("texts 9\nx\na a", 1, 2)
        self.check_text("x 9 9\nx", 1, 1)

    def test_odd_words_against_the_plain_reading(self):
        for word in ODD:
            for text in (
                word, f"{word} 2\na", f"texts {word}\na", f"texts 2 {word}\na", f"texts 2\n{word}", f"texts 3\na\n{word}",
                f"texts 3\na {word}\nb", f"{word}\ntexts 2\na", f"texts 1\n{word} {word}",
            ):
                self.check_read(read_library, (text,), plain_games.read_library(text))

    def test_mixed_texts_against_the_plain_reading(self):
        dice = plain.Dice(31)
        read = 0
        words = ["a", "b", "ab", "-", "c", "abc", "ba", "2"]
        for _ in range(3000):
            rows = [["texts", dice.one_of(["1", "2", "3", "2", "3", "4"])]]
            rows += [[dice.one_of(words[:3 + dice.below(6)])] for _ in range(dice.below(9))]
            text = mixed(rows, words, dice)
            wanted = plain_games.read_library(text)
            self.check_read(read_library, (text,), wanted)
            read += type(wanted) is tuple
        self.assertGreater(read, 300)


def mixed(rows, words, dice):
    """The text of rows of words with spaces and void lines, sometimes with a word more or fewer."""
    rows = [list(row) for row in rows]
    if dice.below(4) == 0:
        row = dice.one_of(rows)
        at = dice.below(len(row) + 1)
        row[at:at + dice.below(2)] = [dice.one_of(words)] * dice.below(2)
    lines = []
    for row in rows:
        lines += ["  "[:dice.below(3)] for _ in range(dice.below(2))]
        gap = " " * (1 + dice.below(2))
        lines.append(" " * dice.below(2) + gap.join(row) + " " * dice.below(3))
    return "\n".join(lines) + "\n" * dice.below(3)


class DaysTest(TextChecks, unittest.TestCase):
    """Point 41, write_days and read_days."""

    def check_text(self, library, most, text, line, word):
        self.check_line(read_days, (library, most, text), line, word)

    def test_no_days(self):
        for library in (RING, (1, ((),)), FOUR):
            self.check_answer(write_days, (library, 1, ()), "")
            for text in ("", " ", "\n", "\n\n  \n", "    \n"):
                self.check_answer(read_days, (library, 1, text), ())

    def test_days(self):
        days = ((0, (1, 2)), (1, ()), (2, (0,)))
        text = "melt 0 write 1 2\nmelt 1 write\nmelt 2 write 0"
        self.check_answer(write_days, (RING, 2, days), text)
        self.check_answer(read_days, (RING, 2, text), days)
        self.check_answer(read_days, (RING, 3, text), days)
        self.check_answer(write_days, ((1, ((0,),)), 1, ((0, ()),)), "melt 0 write")
        self.check_answer(write_days, ((1, ((),) * 6), 3, ((5, (0, 2, 4)),)), "melt 5 write 0 2 4")

    def test_spaces_and_void_lines(self):
        for text in (
            "melt 0 write 1 2\nmelt 1 write", "\n\nmelt 0 write 1 2\n\nmelt 1 write\n", "  melt  0   write 1  2  \n \n melt 1 write  ",
        ):
            self.check_answer(read_days, (RING, 2, text), ((0, (1, 2)), (1, ())))

    def test_only_spaces_and_newlines_part_words_and_lines(self):
        for sign in ("\t", "\r", "\x0b", "\x0c", "\u00a0", "\u2028"):
            self.check_text(RING, 2, f"melt{sign}0 write", 1, 1)
            self.check_text(RING, 2, f"melt 0{sign}write", 1, 2)
            self.check_text(RING, 2, f"melt 0 write{sign}", 1, 3)
            self.check_text(RING, 2, f"melt 0 write {sign}", 1, 4)
            self.check_text(RING, 2, f"melt 0 write 1{sign}", 1, 4)
            self.check_text(RING, 2, f"melt 0 write\n{sign}", 2, 1)

    def test_the_first_three_words(self):
        for word in ("melts", "Melt", "0", "write", "-", "texts"):
            self.check_text(RING, 2, word, 1, 1)
            self.check_text(RING, 2, f"\nmelt 0 write\n\n {word} 0 write", 4, 1)
        for word in ("3", "-1", "00", "01", "0.", "+0", "a", "write", "melt", "10", "\u0660", "\uff10"):
            self.check_text(RING, 2, f"melt {word} write", 1, 2)
            self.check_text(RING, 2, f"melt {word}", 1, 2)
        for word in ("writes", "Write", "1", "melt", "-"):
            self.check_text(RING, 2, f"melt 0 {word} 1", 1, 3)
            self.check_text(RING, 2, f"melt 0 {word} 9 9", 1, 3)

    def test_lacking_words(self):
        self.check_text(RING, 2, "melt", 1, 2)
        self.check_text(RING, 2, "melt ", 1, 2)
        self.check_text(RING, 2, "melt 0", 1, 3)
        self.check_text(RING, 2, "melt 0\nwrite 1", 1, 3)
        self.check_text(RING, 2, "melt 0 write\n\nmelt\n0 write", 3, 2)
        self.check_text(RING, 2, "melt 0 write 1\nmelt 2 ", 2, 3)

    def test_numbers_with_which_no_day_can_begin(self):
        for word in ("4", "-1", "01", "a", "write", "melt", "1,2", "\u0661"):
            self.check_text(FOUR, 2, f"melt 0 write {word}", 1, 4)
            self.check_text(FOUR, 2, f"melt 0 write 1 {word} 2", 1, 5)
        # The one that melted.
        self.check_text(FOUR, 3, "melt 0 write 0", 1, 4)
        self.check_text(FOUR, 3, "melt 2 write 0 1 2", 1, 6)
        self.check_text(FOUR, 3, "melt 2 write 2 1", 1, 4)
        # Numbers that do not ascend.
        self.check_text(FOUR, 3, "melt 0 write 2 1", 1, 5)
        self.check_text(FOUR, 3, "melt 0 write 1 1", 1, 5)
        self.check_text(FOUR, 3, "melt 1 write 0 3 2 9", 1, 6)
        self.check_text(FOUR, 3, "melt 3 write 0 1 0", 1, 6)
        # One too many.
        self.check_text(FOUR, 1, "melt 0 write 1 2", 1, 5)
        self.check_text(FOUR, 2, "melt 0 write 1 2 3", 1, 6)
        self.check_answer(read_days, (FOUR, 3, "melt 0 write 1 2 3"), ((0, (1, 2, 3)),))
        self.check_text(FOUR, 3, "melt 0 write 1 2 3 4", 1, 7)
        self.check_text((1, ((),) * 6), 3, "melt 5 write 0 1 2 3", 1, 7)
        self.check_text((1, ((),)), 3, "melt 0 write 0", 1, 4)
        self.check_text((1, ((),)), 3, "melt 0 write 1", 1, 4)

    def test_sixty_days_and_a_sixty_first(self):
        row = "melt 0 write 1 2"
        text = "\n".join([row] * 60)
        self.check_answer(read_days, (RING, 2, text), ((0, (1, 2)),) * 60)
        self.check_answer(write_days, (RING, 2, ((0, (1, 2)),) * 60), text)
        self.check_answer(read_days, (RING, 2, text + "\n\n "), ((0, (1, 2)),) * 60)
        self.check_text(RING, 2, text + "\n" + row, 61, 1)
        self.check_text(RING, 2, text + "\n\n" + row, 62, 1)
        self.check_text(RING, 2, text + "\nmelt", 61, 1)
        self.check_text(RING, 2, text + "\nmelt 9\nx", 61, 1)
        self.check_text(RING, 2, text + " 2\nmelt", 60, 6)

    def test_line_by_line(self):
        self.check_text(RING, 2, "melt 0 write\nmelt 0 write 0\nmelt\nx", 2, 4)
        self.check_text(RING, 2, "melt 0 write\nmelt 0\nx", 2, 3)

    def test_every_day_is_written_and_read_back(self):
        for library in ((1, ((),)), RING, FOUR, (1, ((0,),) * 5), (2, ((0, 1),) * 6)):
            for most in (1, 2, 3):
                every = plain.all_days(len(library[1]), most)
                for day in every:
                    text = write_days(library, most, (day,))
                    self.assertEqual(text, " ".join(plain_games.day_words(day)))
                    self.assertEqual(repr(read_days(library, most, text)), repr((day,)))
                for at in range(0, len(every), 7):
                    days = tuple(every[at:at + 60])
                    text = write_days(library, most, days)
                    self.assertEqual(text, "\n".join([" ".join(plain_games.day_words(day)) for day in days]))
                    self.assertEqual(repr(read_days(library, most, text)), repr(days))

    def test_odd_words_against_the_plain_reading(self):
        for word in ODD:
            for text in (
                word, f"{word} 0 write", f"melt {word} write 1", f"melt 0 {word} 1", f"melt 0 write {word}",
                f"melt 0 write 1 {word}", f"melt 0 write 1 2 {word}", f"melt 1 write\n{word}", f"melt 2 write {word} 1",
            ):
                for most in (1, 2):
                    self.check_read(read_days, (FOUR, most, text), plain_games.read_days(FOUR, most, text))

    def test_mixed_texts_against_the_plain_reading(self):
        dice = plain.Dice(33)
        read = 0
        words = ["melt", "write", "0", "1", "2", "3", "4", "5", "6", "x"]
        for _ in range(3000):
            library = dice.one_of([(1, ((),)), (1, ((0,), ())), RING, FOUR, (1, ((0,),) * 6)])
            most = 1 + dice.below(3)
            every = plain.all_days(len(library[1]), 1 + dice.below(3))
            rows = [plain_games.day_words(dice.one_of(every)) for _ in range(1 + dice.below(4))]
            text = mixed(rows, words, dice)
            wanted = plain_games.read_days(library, most, text)
            self.check_read(read_days, (library, most, text), wanted)
            read += type(wanted) is tuple
        self.assertGreater(read, 300)


class TaleTest(TextChecks, unittest.TestCase):
    """Point 41, tale."""

    def test_no_days(self):
        self.check_answer(tale, (RING, 2, ()), ())

    def test_one_tablet(self):
        self.check_answer(tale, ((1, ((0,),)), 1, ((0, ()),) * 2), (((0,), 0, False, (), 1), ((), 0, False, (), 1)))

    def test_days_on_which_texts_are_lost(self):
        wanted = (((1,), 2, True, (), 1), ((0,), 1, False, (0, 1), 3), ((0, 1), 1, False, (0, 1), 3))
        self.check_answer(tale, (RING, 1, ((1, ()), (0, (2,)), (2, (0,)))), wanted)

    def test_most_bounds_what_is_tame(self):
        for most, tame in ((1, 0), (2, 0), (3, 4)):
            self.check_answer(tale, (FOUR, most, ((3, ()),)), (((0, 1, 2), 3, True, (), 1),))
            library = (3, FOUR[1] + ((),))
            self.check_answer(tale, (library, most, ((4, ()),)), (((), 3, True, (), tame + 1),))

    def test_against_the_plain_working_out(self):
        dice = plain.Dice(35)
        for library in plain.small_libraries()[::9]:
            most = 1 + dice.below(3)
            every = plain.all_days(len(library[1]), most)
            days = tuple(dice.one_of(every) for _ in range(dice.below(7)))
            self.assertEqual(repr(tale(library, most, days)), repr(plain_games.tale(library, most, days)))

    def test_sixty_days(self):
        days = ((0, (1, 2)),) * 60
        self.check_answer(tale, (RING, 2, days), (((0,), 2, True, (0,), 3),) * 60)


if __name__ == "__main__":
    unittest.main()
