"""Points 1, 42 and 43 and the heading meltlibrary/floods.py."""

import unittest
from itertools import combinations

from meltlibrary import floods
from meltlibrary.errors import BadLibrary, BadMost, BadNumber
from meltlibrary.floods import (
    flood_family, flood_kept, flood_lost_within, flood_schemes, is_flood_scheme, late_kept, late_lost_within,
    shows_flood_family,
)
from meltlibrary.games import family, kept_for_ever, lost_within, shows_family
from meltlibrary.schemes import is_scheme, schemes
from tests import plain, plain_floods
from tests.cases import CallChecks
from tests.plain import RING
from tests.wrong import (
    STRANGE, late_errors, library_errors, melts_errors, most_errors, tablets_errors, texts_errors, wrong_libraries,
)

LISTED = {
    "flood_lost_within": "library most melts",
    "flood_kept": "library most melts",
    "flood_family": "library most melts",
    "shows_flood_family": "library most melts value",
    "is_flood_scheme": "library most melts",
    "flood_schemes": "texts tablets most melts",
    "late_lost_within": "library most late",
    "late_kept": "library most late",
}
SORTED_RING = (2, ((0,), (0, 1), (1,)))
ONE = (1, ((0,),))
TWO = (1, ((0,), (0,)))
THREE = (1, ((0,), (0,), (0,)))
PAIRS = (3, ((0,), (0,), (1,), (1,), (2,), (2,)))
SIX = (3, ((0,), (1,), (2,), (0, 1), (0, 2), (1, 2)))


def many_libraries():
    """Libraries of every number of texts and tablets in any order, those kept in floods among them."""
    dice = plain.Dice(61)
    found = []
    for texts in (1, 2, 3):
        for many in range(1, 7):
            every = plain.sorted_libraries(texts, many)
            chosen = every[::1 + len(every) // 12]
            for melts in range(1, min(3, many) + 1):
                for most in (1, 2, 3):
                    kept = plain_floods.flood_kept_libraries(texts, many, most, melts)
                    chosen = chosen + list(kept[::1 + len(kept) // 3])
            for _, tablets in sorted(set(chosen)):
                at = dice.below(many)
                row = tablets[at:] + tablets[:at]
                found.append((texts, row[::-1] if dice.below(2) else row))
    return found


MANY = many_libraries()
GAMES = [
    (library, most, melts) for library in MANY for most in (1, 2, 3) for melts in range(1, min(3, len(library[1])) + 1)
]


class ExamplesTest(CallChecks, unittest.TestCase):
    def test_interface(self):
        self.check_interface(floods, LISTED)

    def test_values(self):
        self.check_answer(flood_kept, (RING, 2, 1), True)
        self.check_answer(flood_kept, (RING, 2, 2), False)
        self.check_answer(flood_schemes, (1, 3, 1, 2), (THREE,))
        self.check_answer(late_lost_within, (RING, 2, 1), 2)

    def test_by_keywords(self):
        self.assertIs(flood_kept(melts=2, most=2, library=RING), False)
        self.assertIs(shows_flood_family(value=None, melts=1, most=2, library=RING), False)
        self.assertEqual(flood_schemes(melts=2, most=1, tablets=3, texts=1), (THREE,))
        self.assertEqual(late_lost_within(late=1, most=2, library=RING), 2)


class WrongTest(CallChecks, unittest.TestCase):
    def test_floods(self):
        for function in (flood_lost_within, flood_kept, flood_family, is_flood_scheme):
            self.check_wrong(function, (RING, 2, 2), [library_errors(), most_errors(), melts_errors(3)])

    def test_shows_flood_family_has_errors_for_its_first_three_arguments_only(self):
        for value in [None, 0, (SORTED_RING,), [SORTED_RING]]:
            self.check_wrong(
                lambda library, most, melts: shows_flood_family(library, most, melts, value), (RING, 2, 2),
                [library_errors()[::3], most_errors(), melts_errors(3)],
            )

    def test_flood_schemes(self):
        self.check_wrong(flood_schemes, (1, 3, 1, 2), [texts_errors(), tablets_errors(), most_errors(), melts_errors(3)])

    def test_late(self):
        for function in (late_lost_within, late_kept):
            self.check_wrong(function, (RING, 2, 1), [library_errors(), most_errors(), late_errors(3)])

    def test_leftmost(self):
        for function in (flood_lost_within, flood_kept, flood_family, is_flood_scheme, late_lost_within, late_kept):
            self.check_error(function, ((2, ((1, 0),)), 9, 9), BadLibrary, {"part": "tablets"})
            self.check_error(function, ((True, ((1, 0),)), 9, 9), BadLibrary, {"part": "texts"})
            self.check_error(function, (RING, 9, 9), BadMost, {})
            self.check_error(function, (RING, 3, 9), BadNumber, {})
        self.check_error(flood_schemes, (1, 1, 9, 2), BadMost, {})
        self.check_error(flood_schemes, (1, 7, 9, 9), BadNumber, {})

    def test_melts_for_each_number_of_tablets(self):
        for many in range(1, 7):
            library = (1, ((0,),) * many)
            for melts in range(-1, 8):
                for most in (1, 2, 3):
                    told = (library, most, melts)
                    if 1 <= melts <= 3 and melts <= many:
                        self.assertIsInstance(is_flood_scheme(*told), bool)
                        self.assertIsInstance(flood_kept(*told), bool)
                        self.assertIsInstance(flood_schemes(1, many, most, melts), tuple)
                        self.assertIs(shows_flood_family(*told, flood_family(*told)), True)
                    else:
                        for function in (flood_lost_within, flood_kept, flood_family, is_flood_scheme):
                            self.check_error(function, told, BadNumber, {})
                        self.check_error(shows_flood_family, told + (None,), BadNumber, {})
                        self.check_error(flood_schemes, (1, many, most, melts), BadNumber, {})

    def test_late_for_each_number_of_tablets(self):
        for many in range(1, 7):
            # Texts that are lost at first do not make a wrong number right.
            for library in ((1, ((0,),) * many), (1, ((),) * many)):
                for late in range(-1, 8):
                    for most in (1, 2, 3):
                        if 0 <= late <= 3 and late < many:
                            self.assertIsInstance(late_kept(library, most, late), bool)
                        else:
                            self.check_error(late_lost_within, (library, most, late), BadNumber, {})
                            self.check_error(late_kept, (library, most, late), BadNumber, {})

    def test_melts_of_a_library_that_has_lost_its_texts(self):
        for function in (flood_lost_within, flood_kept, flood_family, is_flood_scheme):
            self.check_error(function, ((1, ((),)), 1, 2), BadNumber, {})


class FloodTest(CallChecks, unittest.TestCase):
    """Point 42, how soon texts are lost."""

    def test_texts_that_are_lost_at_first(self):
        for library in ((1, ((),) * 3), (2, ((0,), (0,), ())), (3, ((0, 1), (1, 2), (0, 2), (), (), ()))):
            for most in (1, 2, 3):
                for melts in (1, 2, 3):
                    self.check_answer(flood_lost_within, (library, most, melts), 0)
                    self.check_answer(flood_kept, (library, most, melts), False)
                    self.check_answer(flood_family, (library, most, melts), None)
                    self.check_answer(is_flood_scheme, (library, most, melts), False)

    def test_as_many_melts_as_tablets(self):
        for texts, many in ((1, 1), (1, 2), (1, 3), (2, 2), (2, 3), (3, 3)):
            library = (texts, tuple((number % texts,) for number in range(many)))
            for most in (1, 2, 3):
                self.check_answer(flood_lost_within, (library, most, many), 1)
                self.check_answer(flood_kept, (library, most, many), False)
                self.check_answer(flood_family, (library, most, many), None)
                self.check_answer(flood_schemes, (texts, many, most, many), ())

    def test_like_tablets(self):
        for most in (1, 2, 3):
            for many in range(1, 7):
                for melts in range(1, min(3, many) + 1):
                    library = (1, ((0,),) * many)
                    self.check_answer(flood_lost_within, (library, most, melts), None if melts < many else 1)
                    self.check_answer(is_flood_scheme, (library, most, melts), melts < many)
            self.check_answer(flood_lost_within, (PAIRS, most, 1), None)
            self.check_answer(flood_lost_within, (PAIRS, most, 2), 1)

    def test_one_melt_a_day_is_as_without_floods(self):
        for library in MANY[::3]:
            for most in (1, 2, 3):
                told = (library, most)
                self.assertEqual(flood_lost_within(*told, 1), lost_within(*told), told)
                self.assertIs(flood_kept(*told, 1), kept_for_ever(*told), told)
                self.assertIs(is_flood_scheme(*told, 1), is_scheme(*told), told)
                self.assertIs(shows_family(*told, flood_family(*told, 1)), True, told)
                self.assertIs(shows_flood_family(*told, 1, family(*told)), True, told)

    def test_more_melts_are_no_better(self):
        for library in MANY[1::3]:
            for most in (1, 2, 3):
                days = [flood_lost_within(library, most, melts) for melts in range(1, min(3, len(library[1])) + 1)]
                days = [99 if day is None else day for day in days]
                self.assertEqual(days, sorted(days, reverse=True), (library, most))

    def test_against_the_plain_game(self):
        seen = set()
        for told in GAMES:
            wanted = plain_floods.flood_lost_within(*told)
            found = flood_lost_within(*told)
            self.assertEqual(repr(found), repr(wanted), told)
            seen.add((told[2], wanted))
        for told in GAMES[::7]:
            self.assertIs(flood_kept(*told), plain_floods.flood_lost_within(*told) is None, told)
        self.assertLessEqual({(melts, day) for melts in (1, 2, 3) for day in (0, 1, None)}, seen)
        self.assertTrue(any(melts > 1 and day is not None and day > 1 for melts, day in seen))

    def test_all_small_libraries_against_the_game_day_by_day_in_their_places(self):
        for texts, whole in ((1, 4), (2, 3), (3, 2)):
            for many in range(1, whole + 1):
                for texts_and_tablets in plain.all_libraries(texts, many)[::1 + (texts == 2)]:
                    for most in (1, 2, 3):
                        for melts in range(1, min(3, many) + 1):
                            self.check_day_by_day(texts_and_tablets, most, melts)

    def check_day_by_day(self, library, most, melts):
        found = flood_lost_within(library, most, melts)
        for days in range(5):
            wanted = plain_floods.loses_flood(*library, most, melts, days)
            self.assertIs(found is not None and found <= days, wanted, (library, most, melts, days))


class FloodFamilyTest(CallChecks, unittest.TestCase):
    """Point 42, families."""

    def check_family(self, library, most, melts):
        """The answer is a family as a flood asks for, or None where there is none."""
        found = flood_family(library, most, melts)
        if plain_floods.flood_lost_within(library, most, melts) is None:
            self.assertIs(type(found), tuple)
            self.assertTrue(plain_floods.is_flood_family(found, library, most, melts), (library, most, melts, found))
        else:
            self.assertIsNone(found, (library, most, melts))
        self.check_answer(flood_family, (library, most, melts), found)
        self.check_answer(shows_flood_family, (library, most, melts, found), True)
        return found

    def test_edges(self):
        for most in (1, 2, 3):
            self.assertIsNone(self.check_family(ONE, most, 1))
            self.assertIsNone(self.check_family(TWO, most, 2))
            self.assertIsNone(self.check_family(THREE, most, 3))
            self.assertIsNotNone(self.check_family(THREE, most, 2))
            self.assertIsNotNone(self.check_family((1, ((0,), ()) * 3), most, 2))
            self.assertIsNone(self.check_family((1, ((0,), ()) * 3), most, 3))
            self.assertIsNotNone(self.check_family((1, ((0,),) * 4), most, 3))
        self.assertIsNotNone(self.check_family(SIX, 3, 2))

    def test_many_libraries(self):
        for told in GAMES[::5]:
            self.check_family(*told)

    def test_none_is_a_value_where_there_is_no_family(self):
        self.check_answer(shows_flood_family, (RING, 2, 1, None), False)
        self.check_answer(shows_flood_family, (RING, 2, 2, None), True)
        self.check_answer(shows_flood_family, (RING, 1, 1, None), True)
        self.check_answer(shows_flood_family, (THREE, 1, 2, None), False)
        self.check_answer(shows_flood_family, (THREE, 1, 3, None), True)
        self.check_answer(shows_flood_family, ((1, ((),)), 1, 1, None), True)

    def test_melts_make_a_difference(self):
        pair = (1, ((), (0,), (0,)))
        self.check_answer(shows_flood_family, (pair, 1, 1, (pair,)), True)
        self.check_answer(shows_flood_family, (pair, 1, 2, (pair,)), False)
        for melts, wanted in ((1, True), (2, True), (3, False)):
            self.check_answer(shows_flood_family, (THREE, 1, melts, (THREE,)), wanted)

    def test_values_that_are_none(self):
        for melts in (1, 2):
            library = THREE
            for value in STRANGE + [value for value, _ in wrong_libraries()]:
                self.check_answer(shows_flood_family, (library, 2, melts, (value,)), False)
                self.check_answer(shows_flood_family, (library, 2, melts, (THREE, value)), False)
                self.check_answer(shows_flood_family, (library, 2, melts, (value, THREE)), False)
            for value in STRANGE + [(), [THREE], THREE, {THREE: True}, [], {}, ((THREE,),), ([1, THREE[1]],)]:
                self.check_answer(shows_flood_family, (library, 2, melts, value), False)

    def test_true_is_no_number_in_a_family(self):
        for value in (((True, THREE[1]),), ((1, ((False,), (0,), (0,))),), ((1, ((0,), (0,), (False,))),)):
            self.assertEqual(value, (THREE,))
            self.check_answer(shows_flood_family, (THREE, 1, 2, value), False)

    def test_libraries_that_are_not_sorted(self):
        turned = (2, ((0, 1), (1,), (0,)))
        self.check_answer(shows_flood_family, (turned, 2, 1, (SORTED_RING,)), True)
        self.check_answer(shows_flood_family, (turned, 2, 1, (turned,)), False)
        self.check_answer(shows_flood_family, (turned, 2, 1, (RING,)), False)

    def test_unlike_lengths_and_tuples_that_do_not_ascend(self):
        four = (1, ((), (0,), (0,), (0,)))
        five = (1, ((0,),) * 4)
        for library in (four, five):
            self.check_answer(shows_flood_family, (library, 1, 2, (four, five)), True)
            self.check_answer(shows_flood_family, (library, 1, 2, (five, four)), False)
            self.check_answer(shows_flood_family, (library, 1, 2, (four, four, five)), False)
            self.check_answer(shows_flood_family, (library, 1, 2, (THREE, four, five)), False)
            self.check_answer(shows_flood_family, (library, 1, 2, (four, five, THREE)), False)
            self.check_answer(shows_flood_family, (library, 1, 2, (four, five, (2, five[1]))), False)
        self.check_answer(shows_flood_family, (THREE, 1, 2, (THREE, four)), False)
        self.check_answer(shows_flood_family, (RING, 2, 1, (THREE, SORTED_RING)), False)

    def test_all_tuples_of_few_libraries(self):
        for texts, many in ((1, 1), (1, 2), (1, 3), (1, 4), (2, 1)):
            every = plain.sorted_libraries(texts, many)
            values = [row for size in range(len(every) + 1) for row in combinations(every, size)]
            for melts in range(1, min(3, many) + 1):
                for library in plain.all_libraries(texts, many):
                    for value in values:
                        told = (library, 1 + melts % 3, melts, value)
                        wanted = plain_floods.is_flood_family(value, library, *told[1:3])
                        self.assertIs(shows_flood_family(*told), wanted, told)

    def test_families_with_libraries_taken_away_or_put_to_them(self):
        dice = plain.Dice(65)
        shown = 0
        for library, most, melts in GAMES[1::5]:
            kept = plain_floods.flood_kept_libraries(library[0], len(library[1]), most, melts)
            values = [kept, tuple(one for one in kept if dice.below(8)), tuple(one for one in kept if dice.below(2))]
            values.append((flood_family(library, most, melts) or ())[1:])
            values.append((plain_floods.sorted_one(library),))
            values.append(tuple(sorted({*kept, dice.one_of(plain.sorted_libraries(library[0], len(library[1])))})))
            for value in values:
                wanted = plain_floods.is_flood_family(value, library, most, melts)
                self.assertIs(shows_flood_family(library, most, melts, value), wanted, (library, most, melts, value))
                shown += wanted
        self.assertGreater(shown, 50)


class FloodSchemesTest(CallChecks, unittest.TestCase):
    """Point 42, flood schemes."""

    def test_none(self):
        for most in (1, 2, 3):
            for melts in (1, 2, 3):
                self.check_answer(flood_schemes, (3, 3, most, melts), ())
            self.check_answer(flood_schemes, (1, 1, most, 1), ())
            self.check_answer(flood_schemes, (1, 2, most, 2), ())

    def test_one_text(self):
        self.check_answer(flood_schemes, (1, 2, 1, 1), (TWO,))
        self.check_answer(flood_schemes, (1, 3, 1, 1), ((1, ((), (0,), (0,))), THREE))
        self.check_answer(flood_schemes, (1, 4, 3, 2), ((1, ((), (0,), (0,), (0,))), (1, ((0,),) * 4)))
        self.check_answer(flood_schemes, (1, 4, 3, 3), ((1, ((0,),) * 4),))

    def test_one_melt_a_day_gives_the_schemes(self):
        for texts in (1, 2, 3):
            for many in range(1, 7):
                for most in (1, 2, 3):
                    self.assertEqual(flood_schemes(texts, many, most, 1), schemes(texts, many, most))

    def test_all_against_the_plain_working_out(self):
        found = set()
        for texts in (1, 2, 3):
            for many in range(1, 7):
                for most in (1, 2, 3):
                    for melts in range(1, min(3, many) + 1):
                        told = (texts, many, most, melts)
                        wanted = plain_floods.flood_schemes(*told)
                        self.check_answer(flood_schemes, told, wanted)
                        found.add((texts, melts, bool(wanted)))
        self.assertLessEqual({(texts, melts, True) for texts in (1, 2) for melts in (1, 2, 3)}, found)
        self.assertIn((3, 2, True), found)

    def test_is_flood_scheme_in_any_order_of_tablets(self):
        for library, most, melts in GAMES:
            alone = (plain_floods.sorted_one(library),)
            wanted = plain_floods.is_flood_family(alone, library, most, melts)
            self.assertIs(is_flood_scheme(library, most, melts), wanted, (library, most, melts))
            self.assertIs(shows_flood_family(library, most, melts, alone), wanted, (library, most, melts))


class LateTest(CallChecks, unittest.TestCase):
    """Point 43."""

    def test_not_late_at_all(self):
        for library in MANY[2::3]:
            for most in (1, 2, 3):
                self.assertEqual(late_lost_within(library, most, 0), lost_within(library, most), library)
                self.assertIs(late_kept(library, most, 0), kept_for_ever(library, most), library)

    def test_texts_that_are_lost_at_first(self):
        for library in ((1, ((),) * 4), (2, ((0,), (0,), (), (0,))), (3, ((0, 1), (1, 2), (0, 2), ()))):
            for most in (1, 2, 3):
                for late in (0, 1, 2, 3):
                    self.check_answer(late_lost_within, (library, most, late), 0)
                    self.check_answer(late_kept, (library, most, late), False)

    def test_days_of_like_tablets(self):
        for many in range(1, 7):
            library = (1, ((0,),) * many)
            for late in range(min(4, many)):
                for most in (1, 2, 3):
                    # As many days late as tablets less one: one tablet is left at the end, and melts.
                    wanted = many if late == many - 1 else None
                    self.check_answer(late_lost_within, (library, most, late), wanted)
                    self.check_answer(late_kept, (library, most, late), wanted is None)

    def test_texts_lost_on_each_of_the_first_days(self):
        library = (1, ((0,), (), (), ()))
        for late in (0, 1, 2, 3):
            self.check_answer(late_lost_within, (library, 3, late), 1)
        library = (1, ((0,), (0,), (), ()))
        for late, wanted in ((0, None), (1, 2), (2, 2), (3, 2)):
            self.check_answer(late_lost_within, (library, 3, late), wanted)
        library = (1, ((0,), (0,), (0,), ()))
        for late, wanted in ((0, None), (1, None), (2, 3), (3, 3)):
            self.check_answer(late_lost_within, (library, 3, late), wanted)
        for late, wanted in ((0, None), (1, 2), (2, 2)):
            self.check_answer(late_lost_within, (RING, 2, late), wanted)

    def test_three_texts(self):
        for late in (0, 1, 2, 3):
            for most in (1, 2, 3):
                for library in (SIX, PAIRS, (3, ((0,), (1,), (2,), (0, 1, 2), (0, 1), (2,)))):
                    told = (library, most, late)
                    self.check_answer(late_lost_within, told, plain_floods.late_lost_within(*told))

    def test_against_the_plain_working_out(self):
        for library in MANY[::2]:
            for most in (1, 2, 3):
                for late in range(min(4, len(library[1]))):
                    told = (library, most, late)
                    wanted = plain_floods.late_lost_within(*told)
                    self.assertEqual(repr(late_lost_within(*told)), repr(wanted), told)
        for library in MANY[1::8]:
            told = (library, 2, len(library[1]) // 3)
            self.assertIs(late_kept(*told), plain_floods.late_lost_within(*told) is None, told)

    def test_small_libraries_against_the_game_day_by_day_in_their_places(self):
        for texts, whole in ((1, 4), (2, 4), (3, 3)):
            for many in range(1, whole + 1):
                every = plain.all_libraries(texts, many)
                # Those that keep texts at first are few where there are many texts.
                kept = [library for library in every if plain.keep(*library)]
                for library in every[::1 + len(every) // 20] + kept[::1 + len(kept) // 30]:
                    for most in (1, 2, 3):
                        for late in range(min(4, many)):
                            self.check_day_by_day(library, most, late)

    def check_day_by_day(self, library, most, late):
        found = late_lost_within(library, most, late)
        for days in range(6):
            wanted = plain_floods.loses_late(*library, most, late, (), days)
            self.assertIs(found is not None and found <= days, wanted, (library, most, late, days))


if __name__ == "__main__":
    unittest.main()
