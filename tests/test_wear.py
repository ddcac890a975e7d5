"""Points 1 and 46 and the heading meltlibrary/wear.py."""

import unittest
from itertools import product
from unittest import mock

from meltlibrary import wear
from meltlibrary.errors import BadDays, BadLibrary, BadMost, BadTablet, TooMany
from meltlibrary.schemes import tame
from meltlibrary.wear import even_writings, fewest_reads, least_wear, rewritings, shows_even_writings
from tests import plain, plain_wear
from tests.cases import CallChecks
from tests.plain import RING
from tests.wrong import STRANGE, library_errors, melting_row_errors, most_errors, number_errors

LISTED = {
    "rewritings": "library most number",
    "fewest_reads": "library most number",
    "least_wear": "library most row",
    "even_writings": "library most row",
    "shows_even_writings": "library most row value",
}
THREE = (1, ((0,), (0,), (0,)))
FOUR = (1, ((0,),) * 4)
WILD = (2, ((0,), (0,), (1,)))
SIX = (3, ((0,), (1,), (2,), (0, 1), (0, 2), (1, 2)))
VOID = (1, ((),) * 6)


def rows_of(library, most, dice):
    """Rows of a library, wild tablets in few of them, so short that all choices can be gone through."""
    many = len(library[1])
    tame_ones = [number for number in range(many) if plain_wear.rewritings(library, most, number)]
    found = [()]
    for numbers in (tame_ones, tame_ones, tame_ones, list(range(many))):
        row = ()
        choices = 1
        while numbers and len(row) < 8:
            number = dice.one_of(numbers)
            choices = choices * max(1, len(plain_wear.rewritings(library, most, number)))
            if choices > 500:
                break
            row = row + (number,)
        found.append(row[:dice.below(9) + 1])
    return found


class ExamplesTest(CallChecks, unittest.TestCase):
    def test_interface(self):
        self.check_interface(wear, LISTED)

    def test_values(self):
        self.check_answer(rewritings, (THREE, 1, 0), ((1,), (2,)))
        self.check_answer(fewest_reads, (THREE, 1, 0), 1)
        self.check_answer(least_wear, (THREE, 1, (0, 0, 1, 2)), 2)

    def test_by_keywords(self):
        self.assertEqual(rewritings(number=0, most=1, library=THREE), ((1,), (2,)))
        self.assertEqual(fewest_reads(number=0, most=1, library=THREE), 1)
        self.assertEqual(least_wear(row=(0, 0, 1, 2), most=1, library=THREE), 2)
        self.assertEqual(even_writings(row=(0,), most=2, library=RING), ((1, 2),))
        self.assertIs(shows_even_writings(value=((1, 2),), row=(0,), most=2, library=RING), True)


class WrongTest(CallChecks, unittest.TestCase):
    def test_wrong_arguments(self):
        for function in (rewritings, fewest_reads):
            self.check_wrong(function, (THREE, 1, 0), [library_errors(), most_errors(), number_errors()])
        for function in (least_wear, even_writings):
            self.check_wrong(function, (THREE, 1, (0, 1)), [library_errors(), most_errors(), melting_row_errors()])

    def test_shows_even_writings_has_errors_for_its_first_three_arguments_only(self):
        for value in [None, 0, ((1,), (0,)), [(1,)]]:
            self.check_wrong(
                lambda library, most, row: shows_even_writings(library, most, row, value), (THREE, 1, (0, 1)),
                [library_errors()[::3], most_errors(), melting_row_errors()],
            )

    def test_leftmost(self):
        for function in (rewritings, fewest_reads, least_wear, even_writings):
            self.check_error(function, ((2, ((1, 0),)), 9, 9), BadLibrary, {"part": "tablets"})
            self.check_error(function, (THREE, 9, 9), BadMost, {})
        self.check_error(rewritings, (THREE, 1, 9), BadTablet, {})
        self.check_error(least_wear, (THREE, 1, 9), BadDays, {"index": None})

    def test_each_number_has_its_library(self):
        for many in range(1, 7):
            library = (1, ((),) * many)
            self.check_answer(fewest_reads, (library, 1, many - 1), 0)
            for number in (-1, many, many + 1):
                self.check_error(rewritings, (library, 1, number), BadTablet, {})
                self.check_error(fewest_reads, (library, 1, number), BadTablet, {})
                for function in (least_wear, even_writings):
                    self.check_error(function, (library, 1, (0, number)), BadDays, {"index": 1})

    def test_rows_of_eight_and_of_nine(self):
        self.check_answer(least_wear, (THREE, 1, (0,) * 8), 4)
        for function in (least_wear, even_writings):
            self.check_error(function, (THREE, 1, (0,) * 9), BadDays, {"index": None})
            self.check_error(function, (THREE, 1, (9,) * 9), BadDays, {"index": None})
            self.check_error(function, (THREE, 1, (0, 9, 8)), BadDays, {"index": 1})
            self.check_error(function, (THREE, 1, (0, 1, True)), BadDays, {"index": 2})
            self.check_error(function, (THREE, 1, [0, 1]), BadDays, {"index": None})
            # A wild tablet does not make a wrong number right.
            self.check_error(function, (WILD, 1, (2, 3)), BadDays, {"index": 1})
        self.check_error(shows_even_writings, (WILD, 1, (2, 3), None), BadDays, {"index": 1})
        self.check_error(shows_even_writings, (THREE, 1, (0,) * 9, None), BadDays, {"index": None})


class RewritingsTest(CallChecks, unittest.TestCase):
    """Point 46, rewritings of one tablet."""

    def test_a_wild_tablet(self):
        self.check_answer(rewritings, (WILD, 3, 2), ())
        self.check_answer(fewest_reads, (WILD, 3, 2), None)
        self.check_answer(rewritings, ((1, ((0,),)), 3, 0), ())
        self.check_answer(fewest_reads, ((1, ((0,),)), 3, 0), None)
        self.check_answer(fewest_reads, (RING, 1, 0), None)
        self.check_answer(fewest_reads, (RING, 2, 0), 2)

    def test_a_void_tablet_is_rewritten_from_none(self):
        self.check_answer(rewritings, ((1, ((),)), 1, 0), ((),))
        self.check_answer(fewest_reads, ((1, ((),)), 1, 0), 0)
        self.check_answer(rewritings, ((1, ((), (0,), (0,))), 2, 0), ((), (1, 2)))
        self.check_answer(rewritings, ((1, ((), (), ())), 1, 1), ((), (0,), (2,)))
        self.check_answer(fewest_reads, ((1, ((), (), ())), 3, 1), 0)

    def test_rows_ascend_as_python_compares_them(self):
        library = (2, ((0,), (0,), (1,), (0, 1), ()))
        self.check_answer(rewritings, (library, 1, 0), ((1,),))
        self.check_answer(rewritings, (library, 2, 0), ((1,), (1, 4), (2, 3)))
        self.check_answer(rewritings, (library, 3, 0), ((1,), (1, 4), (2, 3), (2, 3, 4)))
        self.check_answer(rewritings, (FOUR, 3, 1), ((0,), (0, 2, 3), (2,), (3,)))

    def test_against_the_plain_working_out(self):
        for library in plain.small_libraries()[::5]:
            for most in (1, 2, 3):
                for number in range(len(library[1])):
                    told = (library, most, number)
                    wanted = plain_wear.rewritings(*told)
                    self.assertEqual(rewritings(*told), wanted, told)
                    self.assertEqual(fewest_reads(*told), min(map(len, wanted), default=None), told)
                    self.assertIs(number in tame(library, most), bool(wanted), told)


class WearTest(CallChecks, unittest.TestCase):
    """Point 46, wear over a row of meltings."""

    def check_writings(self, library, most, row, wanted):
        """The least wear as wanted, and writings by which it is so."""
        told = (library, most, row)
        self.check_answer(least_wear, told, wanted)
        found = even_writings(*told)
        self.check_answer(even_writings, told, found)
        self.check_answer(shows_even_writings, told + (found,), True)
        self.check_answer(shows_even_writings, told + (None,), wanted is None)
        if wanted is None:
            self.assertIsNone(found)
        else:
            self.assertIs(type(found), tuple)
            self.assertEqual(len(found), len(row))
            for number, one in zip(row, found):
                self.assertIn(one, plain_wear.rewritings(library, most, number), told)
            self.assertEqual(plain_wear.wear(library, found), wanted, told)

    def test_no_meltings(self):
        for library in (RING, WILD, VOID, (1, ((0,),))):
            for most in (1, 2, 3):
                self.check_writings(library, most, (), 0)
                self.assertEqual(even_writings(library, most, ()), ())
                self.check_answer(shows_even_writings, (library, most, (), ((),)), False)

    def test_eight_meltings(self):
        self.check_writings(THREE, 1, (0,) * 8, 4)
        self.check_writings(FOUR, 1, (0, 1, 2, 3) * 2, 2)
        self.check_writings(FOUR, 1, (0,) * 8, 3)
        self.check_writings(RING, 2, (0, 1) * 4, 8)
        self.check_writings(RING, 2, (0, 1, 2, 0, 1, 2, 0, 1), 6)
        self.check_writings(VOID, 3, (0, 1, 2, 3, 4, 5, 0, 1), 0)
        self.check_writings((1, ((0,), (0,))), 3, (0,) * 8, 8)

    def test_void_tablets_are_not_read_for(self):
        self.check_writings((1, ((), (0,), (0,))), 2, (0, 0, 0), 0)
        self.check_answer(even_writings, ((1, ((), (0,), (0,))), 2, (0, 0, 0)), ((), (), ()))
        self.check_writings((1, ((), (0,), (0,))), 2, (0, 1, 0), 1)

    def test_more_reads_by_which_none_is_read_more_often_serve_as_well(self):
        told = ((1, ((), (0,), (0,))), 2, (0, 1))
        self.check_answer(least_wear, told, 1)
        self.check_answer(shows_even_writings, told + (((), (2,)),), True)
        self.check_answer(shows_even_writings, told + (((), (0, 2)),), True)
        # Tablet 2 is read twice.
        self.check_answer(shows_even_writings, told + (((1, 2), (2,)),), False)

    def test_a_wild_one_in_the_row(self):
        for row in ((2,), (0, 2), (2, 0), (0, 1, 2, 0), (0,) * 7 + (2,), (2,) * 8):
            self.check_writings(WILD, 3, row, None)
            self.check_answer(shows_even_writings, (WILD, 3, row, ()), False)
            self.check_answer(shows_even_writings, (WILD, 3, row, ((1,),) * len(row)), False)
            self.check_answer(shows_even_writings, (WILD, 3, row, ((),) * len(row)), False)
        self.check_writings(WILD, 3, (0, 1, 0), 2)
        self.check_writings((1, ((0,),)), 3, (0,), None)

    def test_values_that_are_none(self):
        told = (THREE, 1, (0, 1))
        self.check_answer(least_wear, told, 1)
        for value in (((1,), (2,)), ((2,), (0,)), ((1,), (0,))):
            self.check_answer(shows_even_writings, told + (value,), True)
        for value in STRANGE + [
            (), ((1,),), ((1,), (2,), ()), ((1,), (2,), (0,)), [(1,), (2,)], ([1], (2,)), ((1,), [2]), ((1,), {2: 2}),
            {(1,): (2,)}, (1, 2), ("1", "2"), ((1,), "2"), ((1,), None), (None, None), ((1,), 2), ((True,), (2,)),
            ((1,), (False,)), ((1,), ("0",)), ((1,), ((0,),)), ((1,), (None,)), ((1,), ()), ((0,), (2,)), ((1,), (1,)),
            ((1,), (3,)), ((1,), (-1,)), ((1,), (10 ** 30,)), ((1,), (0, 2)), ((1, 2), (0,)), ((2, 1), (0,)),
            ((1,), (0, 0)), ((1,), ([],)), ((2,), (2,)),
        ]:
            self.check_answer(shows_even_writings, told + (value,), False)

    def test_too_long_and_not_ascending_writings(self):
        told = (FOUR, 3, (0,))
        self.check_answer(shows_even_writings, told + (((1, 2, 3),),), True)
        self.check_answer(shows_even_writings, (FOUR, 2, (0,), ((1, 2, 3),)), False)
        for one in ((3, 2, 1), (1, 3, 2), (1, 1, 2), (1, 2, 2), (1, 2), (0, 1, 2), (1, 2, 3, 4), (0,), [1]):
            self.check_answer(shows_even_writings, told + ((one,),), False)

    def test_all_tuples_of_writings_of_small_libraries(self):
        for library in [THREE, RING, (1, ((), (0,), (0,))), (2, ((0,), (0,), (1,))), (1, ((), ()))]:
            many = len(library[1])
            ones = [row for number in range(many) for row in plain.writings(many, 3, number)]
            for most in (1, 2, 3):
                for row in product(range(many), repeat=2):
                    least = plain_wear.least_wear(library, most, row)
                    even = [
                        value for value in plain_wear.all_choices(library, most, row)
                        if plain_wear.wear(library, value) == least
                    ]
                    for value in product(sorted(set(ones)), repeat=2):
                        told = (library, most, row, value)
                        self.assertIs(shows_even_writings(*told), value in even, told)

    def test_against_all_choices(self):
        dice = plain.Dice(81)
        seen = set()
        for library in plain.small_libraries()[::31]:
            for most in (1, 2, 3):
                for row in rows_of(library, most, dice):
                    wanted = plain_wear.least_wear(library, most, row)
                    found = even_writings(library, most, row)
                    self.assertEqual(least_wear(library, most, row), wanted, (library, most, row))
                    self.assertIs(found is None, wanted is None, (library, most, row))
                    self.assertIs(shows_even_writings(library, most, row, found), True, (library, most, row))
                    self.check_choices(library, most, row, dice)
                    seen.add((wanted, len(row)))
        self.assertLessEqual({None, 0, 1, 2, 3, 4}, {wear for wear, _ in seen})
        self.assertIn(8, {length for _, length in seen})

    def check_choices(self, library, most, row, dice):
        """Each of some choices is a value exactly if its wear is the least."""
        choices = plain_wear.all_choices(library, most, row)
        for value in [dice.one_of(choices) for _ in range(5)] if choices else []:
            wanted = plain_wear.wear(library, value) == plain_wear.least_wear(library, most, row)
            self.assertIs(shows_even_writings(library, most, row, value), wanted, (library, most, row, value))

    def test_six_tablets_of_three_texts(self):
        for row in ((0, 1, 2, 3, 4), (0, 0, 1, 1), (5, 4, 3, 2), (3, 3, 3)):
            self.check_writings(SIX, 2, row, plain_wear.least_wear(SIX, 2, row))


class TooManyTest(CallChecks, unittest.TestCase):
    """Point 46, unlike tuples of how often each tablet is read."""

    # No row of 8 has more of them than one of these, and it has fewer than 200000.
    FULL = (VOID, 3, (0, 0, 1, 1, 2, 3, 4, 5))

    def test_as_many_as_there_can_be(self):
        self.check_answer(least_wear, self.FULL, 0)
        self.check_answer(even_writings, self.FULL, ((),) * 8)
        self.check_answer(shows_even_writings, self.FULL + (((),) * 8,), True)
        self.check_answer(shows_even_writings, self.FULL + (((1,),) + ((),) * 7,), False)

    def test_the_bound_of_the_document(self):
        self.assertEqual(wear.MOST_READS, 200000)

    def test_more_than_a_lesser_bound(self):
        for library, most, row in ((THREE, 1, (0, 0, 1, 2)), (FOUR, 3, (0, 1, 2)), (VOID, 2, (0, 1)), (RING, 2, (0, 1))):
            many = len(plain_wear.reads(library, most, row))
            with mock.patch.object(wear, "MOST_READS", many):
                self.check_answer(least_wear, (library, most, row), plain_wear.least_wear(library, most, row))
            with mock.patch.object(wear, "MOST_READS", many - 1):
                self.check_error(least_wear, (library, most, row), TooMany, {"most": many - 1})
                self.check_error(even_writings, (library, most, row), TooMany, {"most": many - 1})
                for value in (None, 0, ()):
                    self.check_error(shows_even_writings, (library, most, row, value), TooMany, {"most": many - 1})

    def test_behind_all_other_errors_and_wild_tablets(self):
        with mock.patch.object(wear, "MOST_READS", 0):
            self.check_error(least_wear, (THREE, 1, (0, 0, 9)), BadDays, {"index": 2})
            self.check_error(least_wear, (THREE, 1, (0, 0)), TooMany, {"most": 0})
            # With a wild one in the row there are no such tuples.
            self.check_answer(least_wear, (WILD, 1, (0, 1, 2)), None)
            self.check_answer(even_writings, (WILD, 1, (0, 1, 2)), None)
            self.check_answer(shows_even_writings, (WILD, 1, (0, 1, 2), None), True)


if __name__ == "__main__":
    unittest.main()
