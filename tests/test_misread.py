"""Points 1, 44 and 45 and the heading meltlibrary/misread.py."""

import unittest

from meltlibrary import misread
from meltlibrary.errors import BadLibrary, BadMost, BadNumber, BadShown
from meltlibrary.libraries import keeps
from meltlibrary.misread import apart, can_right, can_tell, contents_told, failing_rings, fewest_wrong, shown
from meltlibrary.schemes import is_scheme, rings, schemes
from tests import plain, plain_misread
from tests.cases import CallChecks
from tests.plain import RING
from tests.wrong import library_errors, most_errors, shown_errors, wrong_errors

LISTED = {
    "shown": "library contents",
    "apart": "library",
    "fewest_wrong": "library row",
    "can_tell": "library wrong",
    "can_right": "library wrong",
    "contents_told": "library row wrong",
    "failing_rings": "library most row",
}
BARE = (2, ((0,), (1,), ()))
SIX = (3, ((0,), (1,), (2,), (0, 1), (0, 2), (1, 2)))
MANY = plain.small_libraries()[::17]


def all_rows(library):
    return plain_misread.all_contents(len(library[1]))


def some_rows(library, dice):
    """Few of the rows that can be read of a library."""
    rows = all_rows(library)
    return [dice.one_of(rows) for _ in range(4)]


class ExamplesTest(CallChecks, unittest.TestCase):
    def test_interface(self):
        self.check_interface(misread, LISTED)

    def test_values(self):
        self.check_answer(shown, (RING, (1, 1)), (1, 1, 0))
        self.check_answer(apart, (RING,), 2)
        self.check_answer(contents_told, (RING, (1, 0, 0), 1), ((0, 0), (1, 0), (1, 1)))
        self.check_answer(failing_rings, (RING, 2, (1, 0, 0)), ((0, 1, 2),))

    def test_by_keywords(self):
        self.assertEqual(shown(contents=(1, 1), library=RING), (1, 1, 0))
        self.assertIs(can_tell(wrong=1, library=RING), True)
        self.assertIs(can_right(wrong=1, library=RING), False)
        self.assertEqual(contents_told(wrong=0, row=(1, 1, 0), library=RING), ((1, 1),))
        self.assertEqual(fewest_wrong(row=(1, 0, 0), library=RING), 1)
        self.assertEqual(failing_rings(row=(1, 0, 0), most=2, library=RING), ((0, 1, 2),))


class WrongTest(CallChecks, unittest.TestCase):
    def test_wrong_arguments(self):
        self.check_wrong(shown, (RING, (0, 1)), [library_errors(), shown_errors(2)])
        self.check_wrong(apart, (RING,), [library_errors()])
        for function in (can_tell, can_right):
            self.check_wrong(function, (RING, 1), [library_errors(), wrong_errors()])
        self.check_wrong(contents_told, (RING, (0, 1, 1), 1), [library_errors(), shown_errors(3), wrong_errors()])
        self.check_wrong(fewest_wrong, (RING, (0, 1, 1)), [library_errors(), shown_errors(3)])
        self.check_wrong(failing_rings, (RING, 2, (0, 1, 1)), [library_errors(), most_errors(), shown_errors(3)])

    def test_each_length_has_its_library(self):
        for texts in (1, 2, 3):
            for many in range(1, 7):
                library = (texts, ((0,),) * many)
                for length in range(9):
                    row = (0,) * length
                    if length != texts:
                        self.check_error(shown, (library, row), BadShown, {})
                    if length != many:
                        self.check_error(contents_told, (library, row, 0), BadShown, {})
                        self.check_error(fewest_wrong, (library, row), BadShown, {})
                        self.check_error(failing_rings, (library, 1, row), BadShown, {})
                self.check_answer(shown, (library, (1,) * texts), (1,) * many)
                self.check_answer(fewest_wrong, (library, (1,) * many), 0)

    def test_true_and_false_are_no_figures(self):
        for row in ((True, False), (1, True), (False, 0), (1, False)):
            self.check_error(shown, (RING, row), BadShown, {})
            self.check_error(contents_told, (RING, row + (0,), 0), BadShown, {})
            self.check_error(contents_told, (RING, (0,) + row, 0), BadShown, {})
            self.check_error(fewest_wrong, (RING, (0,) + row), BadShown, {})
            self.check_error(failing_rings, (RING, 2, (0,) + row), BadShown, {})

    def test_leftmost(self):
        self.check_error(contents_told, ((2, ((1, 0),)), (2,), 7), BadLibrary, {"part": "tablets"})
        self.check_error(contents_told, (RING, (2,), 7), BadShown, {})
        self.check_error(contents_told, (RING, (1, 1, 1), 7), BadNumber, {})
        self.check_error(failing_rings, (RING, 0, (2,)), BadMost, {})
        self.check_error(failing_rings, ((4, ()), 0, (2,)), BadLibrary, {"part": "texts"})

    def test_wrong_from_0_to_6(self):
        for wrong in range(7):
            for library in (RING, (1, ((),)), SIX):
                self.check_answer(can_tell, (library, wrong), plain_misread.can_tell(library, wrong))
                self.check_answer(can_right, (library, wrong), plain_misread.can_right(library, wrong))
        for wrong in (-1, 7, -6, 100):
            self.check_error(can_tell, (RING, wrong), BadNumber, {})
            self.check_error(can_right, (RING, wrong), BadNumber, {})
            self.check_error(contents_told, (RING, (0, 0, 0), wrong), BadNumber, {})


class ShownTest(CallChecks, unittest.TestCase):
    """Point 44, what tablets show and how it is told."""

    def test_shown(self):
        self.check_answer(shown, ((1, ((), (0,))), (1,)), (0, 1))
        self.check_answer(shown, ((1, ((), (0,))), (0,)), (0, 0))
        self.check_answer(shown, (SIX, (1, 0, 1)), (1, 0, 1, 1, 0, 1))
        self.check_answer(shown, ((3, ((0, 1, 2), (2,), ())), (1, 1, 1)), (1, 1, 0))
        self.check_answer(shown, ((3, ((0, 1, 2), (2,), ())), (1, 1, 0)), (0, 0, 0))

    def test_contents_of_nothing_but_0_show_nothing_but_0(self):
        for library in MANY:
            self.assertEqual(shown(library, (0,) * library[0]), (0,) * len(library[1]))

    def test_apart(self):
        self.check_answer(apart, (BARE,), 1)
        self.check_answer(apart, ((1, ((),)),), 0)
        self.check_answer(apart, ((2, ((0, 1),) * 6),), 0)
        self.check_answer(apart, ((3, ((0, 1), (1, 2), (0, 2), (0, 1), (1, 2), (0, 2))),), 0)
        self.check_answer(apart, (SIX,), 3)
        for many in range(1, 7):
            self.check_answer(apart, ((1, ((0,),) * many),), many)

    def test_apart_is_0_exactly_if_not_all_texts_are_kept(self):
        for library in plain.small_libraries()[::3]:
            self.assertIs(apart(library) == 0, not keeps(library), library)

    def test_three_like_tablets(self):
        library = (1, ((0,), (0,), (0,)))
        for wrong, tell, right in ((0, True, True), (1, True, True), (2, True, False), (3, False, False), (6, False, False)):
            self.check_answer(can_tell, (library, wrong), tell)
            self.check_answer(can_right, (library, wrong), right)
        self.check_answer(contents_told, (library, (1, 0, 1), 0), ())
        self.check_answer(contents_told, (library, (1, 0, 1), 1), ((1,),))
        self.check_answer(contents_told, (library, (1, 0, 1), 2), ((0,), (1,)))
        self.check_answer(contents_told, (library, (1, 0, 1), 6), ((0,), (1,)))

    def test_a_library_that_does_not_keep_its_texts(self):
        library = (2, ((0, 1), (0, 1)))
        self.check_answer(contents_told, (library, (0, 0), 0), ((0, 0), (1, 1)))
        self.check_answer(contents_told, (library, (1, 1), 0), ((0, 1), (1, 0)))
        for wrong in range(7):
            self.check_answer(can_tell, (library, wrong), False)
            self.check_answer(can_right, (library, wrong), False)

    def test_a_row_that_no_contents_show(self):
        self.check_answer(contents_told, (RING, (1, 0, 0), 0), ())
        self.check_answer(fewest_wrong, (RING, (1, 0, 0)), 1)
        self.check_answer(contents_told, ((1, ((),)), (1,), 0), ())
        self.check_answer(fewest_wrong, ((1, ((),)), (1,)), 1)
        self.check_answer(fewest_wrong, ((3, ((),) * 6), (1,) * 6), 6)
        self.check_answer(contents_told, ((1, ((),) * 6), (1,) * 6, 5), ())
        self.check_answer(contents_told, ((1, ((),) * 6), (1,) * 6, 6), ((0,), (1,)))

    def test_all_small_libraries_against_the_plain_working_out(self):
        dice = plain.Dice(71)
        for library in MANY:
            self.assertEqual(apart(library), plain_misread.apart(library), library)
            for contents in plain_misread.all_contents(library[0]):
                self.assertEqual(shown(library, contents), plain_misread.shown(library, contents), library)
            for wrong in range(7):
                told = (library, wrong)
                self.assertIs(can_tell(*told), plain_misread.can_tell(*told), told)
                self.assertIs(can_right(*told), plain_misread.can_right(*told), told)
            for row in some_rows(library, dice):
                self.assertEqual(fewest_wrong(library, row), plain_misread.fewest_wrong(library, row), (library, row))
                for wrong in range(7):
                    told = (library, row, wrong)
                    self.assertEqual(contents_told(*told), plain_misread.contents_told(*told), told)

    def test_as_the_document_counts(self):
        for library in MANY:
            for wrong in range(7):
                self.assertIs(can_tell(library, wrong), apart(library) > wrong)
                self.assertIs(can_right(library, wrong), apart(library) > 2 * wrong)

    def test_what_is_shown_is_told(self):
        for library in MANY:
            for contents in plain_misread.all_contents(library[0]):
                row = shown(library, contents)
                self.assertEqual(fewest_wrong(library, row), 0)
                self.assertIn(contents, contents_told(library, row, 0))


class RingsTest(CallChecks, unittest.TestCase):
    """Point 45."""

    def test_a_row_without_a_misreading(self):
        self.check_answer(failing_rings, (RING, 2, (1, 1, 0)), ())
        for library in MANY:
            for contents in plain_misread.all_contents(library[0]):
                for most in (1, 2, 3):
                    self.assertEqual(failing_rings(library, most, shown(library, contents)), (), library)

    def test_without_rings(self):
        for row in all_rows(RING):
            self.check_answer(failing_rings, (RING, 1, row), ())

    def test_void_tablets_are_rings_by_themselves(self):
        library = (1, ((), (0,), ()))
        self.check_answer(failing_rings, (library, 1, (1, 1, 0)), ((0,),))
        self.check_answer(failing_rings, (library, 1, (1, 0, 1)), ((0,), (2,)))

    def test_most_bounds_a_ring(self):
        library = (3, ((0,), (1,), (2,), (0, 1, 2)))
        self.check_answer(failing_rings, (library, 2, (1, 0, 0, 0)), ())
        self.check_answer(failing_rings, (library, 3, (1, 0, 0, 0)), ((0, 1, 2, 3),))

    def test_against_the_plain_working_out(self):
        dice = plain.Dice(73)
        for library in MANY:
            for row in some_rows(library, dice):
                for most in (1, 2, 3):
                    told = (library, most, row)
                    self.assertEqual(failing_rings(*told), plain_misread.failing_rings(*told), told)

    def test_in_a_scheme_each_misreading_of_one_tablet_makes_some_ring_fail(self):
        for told in ((1, 2, 1), (1, 6, 1), (2, 3, 2), (2, 4, 1), (2, 6, 3), (3, 4, 3), (3, 5, 2), (3, 6, 1), (3, 6, 2)):
            for library in schemes(*told)[:12]:
                self.assertTrue(is_scheme(library, told[2]))
                for contents in plain_misread.all_contents(told[0]):
                    row = shown(library, contents)
                    for number in range(told[1]):
                        wrong_row = plain_misread.misread(row, (number,))
                        self.assertNotEqual(failing_rings(library, told[2], wrong_row), (), (library, wrong_row))

    def test_a_ring_fails_exactly_if_an_odd_number_of_its_tablets_are_misread(self):
        dice = plain.Dice(75)
        for library in MANY[::2]:
            contents = dice.one_of(plain_misread.all_contents(library[0]))
            lots = plain.parts(library[1])
            for lot in [dice.one_of(lots) for _ in range(4)]:
                row = plain_misread.misread(shown(library, contents), lot)
                for most in (1, 2, 3):
                    wanted = [ring for ring in rings(library, most) if sum(number in lot for number in ring) % 2]
                    self.assertEqual(failing_rings(library, most, row), tuple(wanted), (library, most, row))


if __name__ == "__main__":
    unittest.main()
