"""Points 1 to 3 and the heading meltlibrary/libraries.py."""

import unittest

from meltlibrary import libraries
from meltlibrary.errors import BadDays, BadLibrary, BadMost
from meltlibrary.libraries import after, keeps, lacking, lost_on, rank, spanned
from tests import plain
from tests.cases import CallChecks
from tests.plain import RING
from tests.wrong import days_errors, library_errors, most_errors

LISTED = {
    "spanned": "library",
    "rank": "library",
    "keeps": "library",
    "lacking": "library",
    "after": "library most days",
    "lost_on": "library most days",
}


class ExamplesTest(CallChecks, unittest.TestCase):
    def test_interface(self):
        self.check_interface(libraries, LISTED)

    def test_values(self):
        self.check_answer(spanned, (RING,), ((), (0,), (0, 1), (1,)))
        self.check_answer(rank, (RING,), 2)
        self.check_answer(keeps, (RING,), True)
        self.check_answer(lacking, ((2, ((0, 1),)),), (0, 1))
        self.check_answer(after, (RING, 2, ((0, (1, 2)), (1, ()))), (2, ((0,), (), (0, 1))))
        self.check_answer(lost_on, (RING, 2, ((1, ()), (0, ()))), 1)

    def test_error(self):
        self.check_error(after, (RING, 1, ((0, (1, 2)),)), BadDays, {"index": 0})

    def test_by_keywords(self):
        self.assertEqual(rank(library=RING), 2)
        self.assertEqual(after(library=RING, most=2, days=((1, ()),)), (2, ((0,), (), (0, 1))))
        self.assertEqual(lost_on(days=((1, ()), (0, ())), most=2, library=RING), 1)


class SumsTest(CallChecks, unittest.TestCase):
    """Point 2."""

    def test_one_text(self):
        self.check_answer(spanned, ((1, ((0,),)),), ((), (0,)))
        self.check_answer(rank, ((1, ((0,),)),), 1)
        self.check_answer(keeps, ((1, ((0,),)),), True)
        self.check_answer(lacking, ((1, ((0,),)),), ())

    def test_void_tablets(self):
        for many in range(1, 7):
            library = (3, ((),) * many)
            self.check_answer(spanned, (library,), ((),))
            self.check_answer(rank, (library,), 0)
            self.check_answer(keeps, (library,), False)
            self.check_answer(lacking, (library,), (0, 1, 2))

    def test_six_tablets_of_three_texts(self):
        library = (3, ((0, 1, 2), (1, 2), (0, 1, 2), (), (2,), (1, 2)))
        everything = ((), (0,), (0, 1), (0, 1, 2), (0, 2), (1,), (1, 2), (2,))
        self.check_answer(spanned, (library,), everything)
        self.check_answer(rank, (library,), 3)
        self.check_answer(keeps, (library,), True)
        self.check_answer(lacking, (library,), ())

    def test_like_tablets_side_by_side(self):
        library = (3, ((0, 1), (0, 1), (1, 2), (1, 2), (0, 2), (0, 2)))
        self.check_answer(spanned, (library,), ((), (0, 1), (0, 2), (1, 2)))
        self.check_answer(rank, (library,), 2)
        self.check_answer(keeps, (library,), False)
        self.check_answer(lacking, (library,), (0, 1, 2))

    def test_some_texts_are_lacking(self):
        self.check_answer(lacking, ((3, ((0, 1, 2), (1, 2))),), (1, 2))
        self.check_answer(lacking, ((3, ((0, 2), (1,), (1,))),), (0, 2))
        self.check_answer(lacking, ((2, ((0,), (0,))),), (1,))

    def test_against_the_plain_working_out(self):
        for library in plain.small_libraries():
            self.assertEqual(spanned(library), plain.spanned(library), library)
            self.assertEqual(rank(library), plain.rank(library), library)
            self.assertEqual(lacking(library), plain.lacking(library), library)
            self.assertIs(keeps(library), plain.keep(*library), library)

    def test_wrong_libraries(self):
        for function in (spanned, rank, keeps, lacking):
            self.check_wrong(function, (RING,), [library_errors()])

    def test_texts_are_named_ahead_of_tablets(self):
        self.check_error(rank, ((4, ((9,),)),), BadLibrary, {"part": "texts"})
        self.check_error(rank, ((True, [()]),), BadLibrary, {"part": "texts"})
        self.check_error(rank, ((True, [()], 1),), BadLibrary, {"part": "library"})


class DaysTest(CallChecks, unittest.TestCase):
    """Point 3."""

    def test_no_days(self):
        for library in (RING, (1, ((),)), (3, ((0,),) * 6)):
            self.check_answer(after, (library, 1, ()), library)
            self.check_answer(lost_on, (library, 1, ()), None)

    def test_a_day_whose_numbers_are_none(self):
        self.check_answer(after, (RING, 1, ((2, ()),)), (2, ((0,), (1,), ())))
        self.check_answer(lost_on, (RING, 1, ((2, ()),)), None)

    def test_one_tablet(self):
        self.check_answer(after, ((1, ((0,),)), 3, ((0, ()),)), (1, ((),)))
        self.check_answer(lost_on, ((1, ((0,),)), 3, ((0, ()),)), 0)

    def test_a_library_that_keeps_nothing_at_first(self):
        bare = (2, ((0,), (0,), ()))
        self.check_answer(lost_on, (bare, 2, ()), None)
        self.check_answer(lost_on, (bare, 2, ((2, ()),)), 0)
        self.check_answer(lost_on, (bare, 2, ((2, (0, 1)), (0, ()))), 0)

    def test_what_is_left_behind_the_melting_counts(self):
        # The tablet that is written on the day that loses a text does not bring it back.
        days = ((0, (1, 2)), (1, ()), (1, (0, 2)), (0, (1, 2)))
        self.check_answer(lost_on, (RING, 2, days), None)
        self.check_answer(lost_on, (RING, 2, days + ((2, ()), (0, ()), (0, (1,)))), 5)

    def test_sixty_days_and_sixty_one(self):
        day = (0, (1, 2))
        self.check_answer(after, (RING, 2, (day,) * 60), RING)
        self.check_answer(lost_on, (RING, 2, (day,) * 60), None)
        days = (day,) * 57 + ((1, ()), (0, ()), (2, ()))
        self.check_answer(after, (RING, 2, days), (2, ((), (), ())))
        self.check_answer(lost_on, (RING, 2, days), 58)
        for function in (after, lost_on):
            self.check_error(function, (RING, 2, (day,) * 61), BadDays, {"index": None})
            self.check_error(function, (RING, 2, (None,) + (day,) * 60), BadDays, {"index": None})

    def test_most_bounds_the_numbers_of_a_day(self):
        library = (3, ((0,), (1,), (2,), ()))
        for many in range(4):
            days = ((3, tuple(range(many))),)
            wanted = (3, ((0,), (1,), (2,), tuple(range(many))))
            for most in (1, 2, 3):
                if many <= most:
                    self.check_answer(after, (library, most, days), wanted)
                    self.check_answer(lost_on, (library, most, days), None)
                else:
                    self.check_error(after, (library, most, days), BadDays, {"index": 0})
                    self.check_error(lost_on, (library, most, days), BadDays, {"index": 0})

    def test_the_first_wrong_day_is_named(self):
        days = ((0, ()), (1, (1,)), (2, (2,)), None)
        self.check_error(after, (RING, 2, days), BadDays, {"index": 1})
        self.check_error(lost_on, (RING, 2, days), BadDays, {"index": 1})

    def test_single_days_against_the_plain_working_out(self):
        for library in plain.small_libraries()[::7]:
            many = len(library[1])
            for day in plain.all_days(many, 3):
                most = max(1, len(day[1]))
                self.assertEqual(after(library, most, (day,)), plain.after(library, (day,)), (library, day))
                self.assertEqual(lost_on(library, most, (day,)), plain.lost_on(library, (day,)), (library, day))

    def test_long_days_against_the_plain_working_out(self):
        dice = plain.Dice(7)
        chosen = [library for library in plain.small_libraries() if plain.keep(*library)]
        for library in chosen[::5]:
            most = 1 + dice.below(3)
            choices = plain.all_days(len(library[1]), most)
            days = tuple(dice.one_of(choices) for _ in range(dice.below(13)))
            self.assertEqual(after(library, most, days), plain.after(library, days), (library, days))
            self.assertEqual(lost_on(library, most, days), plain.lost_on(library, days), (library, days))

    def test_wrong_arguments(self):
        wrong = [library_errors(), most_errors(), days_errors()]
        for function in (after, lost_on):
            self.check_wrong(function, (RING, 1, ((0, (1,)),)), wrong)

    def test_leftmost_of_three(self):
        for function in (after, lost_on):
            self.check_error(function, ((2, []), 0, None), BadLibrary, {"part": "tablets"})
            self.check_error(function, (RING, 0, None), BadMost, {})
            self.check_error(function, (RING, True, ((5, ()),)), BadMost, {})


if __name__ == "__main__":
    unittest.main()
