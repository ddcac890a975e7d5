"""Points 1 and 6 to 9 and the heading meltlibrary/games.py."""

import unittest
from itertools import combinations, combinations_with_replacement

from meltlibrary import games
from meltlibrary.errors import BadLibrary, BadMost, BadTablet
from meltlibrary.games import (
    additions, downfall, family, good_writings, kept_for_ever, lost_within, rank_kept, shows_family,
)
from meltlibrary.libraries import lost_on
from tests import plain, plain_games
from tests.cases import CallChecks
from tests.plain import RING
from tests.wrong import STRANGE, library_errors, most_errors, number_errors, wrong_libraries

LISTED = {
    "lost_within": "library most",
    "kept_for_ever": "library most",
    "good_writings": "library most number",
    "family": "library most",
    "shows_family": "library most value",
    "downfall": "library most",
    "rank_kept": "library most",
    "additions": "library most",
}
BARE = (2, ((0,), (1,), ()))
SORTED_RING = (2, ((0,), (0, 1), (1,)))
ONE = (1, ((0,),))
PAIRS = (3, ((0,), (0,), (1,), (1,), (2,), (2,)))


def turned(libraries):
    """The libraries with their tablets in other orders."""
    dice = plain.Dice(3)
    found = []
    for texts, tablets in libraries:
        at = dice.below(len(tablets))
        row = tablets[at:] + tablets[:at]
        found.append((texts, row[::-1] if dice.below(2) else row))
    return found


def many_libraries():
    """Libraries of every number of texts and of tablets, mostly unsorted, those kept for ever among them."""
    found = []
    for texts in (1, 2, 3):
        for many in range(1, 7):
            every = plain.sorted_libraries(texts, many)
            found.extend(turned(every[::1 + len(every) // 20]))
            for most in (1, 2, 3):
                kept = plain_games.kept_libraries(texts, many, most)
                found.extend(turned(kept[::1 + len(kept) // 8]))
    return sorted(set(found))


MANY = many_libraries()


class ExamplesTest(CallChecks, unittest.TestCase):
    def test_interface(self):
        self.check_interface(games, LISTED)

    def test_values(self):
        self.check_answer(lost_within, (RING, 2), None)
        self.check_answer(lost_within, (RING, 1), 2)
        self.check_answer(lost_within, (BARE, 3), 1)
        self.check_answer(kept_for_ever, (RING, 2), True)
        self.check_answer(good_writings, (RING, 2, 0), ((1, 2),))
        self.check_answer(downfall, (BARE, 3), ((0, ()),))
        self.check_answer(rank_kept, (BARE, 2), 1)
        self.check_answer(additions, (BARE, 2), (((0, 1),),))
        self.check_answer(family, (BARE, 2), None)
        self.check_answer(shows_family, (RING, 2, (SORTED_RING,)), True)

    def test_error(self):
        self.check_error(good_writings, (RING, 2, 3), BadTablet, {})

    def test_by_keywords(self):
        self.assertEqual(lost_within(most=1, library=RING), 2)
        self.assertEqual(good_writings(number=0, most=2, library=RING), ((1, 2),))
        self.assertIs(shows_family(value=None, most=2, library=RING), False)


class WrongTest(CallChecks, unittest.TestCase):
    def test_wrong_arguments(self):
        for function in (lost_within, kept_for_ever, family, downfall, rank_kept, additions):
            self.check_wrong(function, (RING, 2), [library_errors(), most_errors()])
        self.check_wrong(good_writings, (RING, 2, 0), [library_errors(), most_errors(), number_errors()])

    def test_shows_family_has_errors_for_its_first_two_arguments_only(self):
        for value in [None, 0, (), (SORTED_RING,), [SORTED_RING]]:
            self.check_wrong(
                lambda library, most: shows_family(library, most, value), (RING, 2), [library_errors(), most_errors()],
            )

    def test_leftmost_of_three(self):
        self.check_error(good_writings, ((2, ((1, 0),)), 9, 9), BadLibrary, {"part": "tablets"})
        self.check_error(good_writings, (RING, 9, 9), BadMost, {})
        self.check_error(good_writings, ((0, ()), 2, 0), BadLibrary, {"part": "texts"})

    def test_each_number_has_its_library(self):
        for many in range(1, 7):
            library = (1, ((0,),) * many)
            self.check_answer(good_writings, (library, 1, many - 1), good_writings(library, 1, many - 1))
            self.check_error(good_writings, (library, 1, many), BadTablet, {})
            self.check_error(good_writings, (library, 1, -1), BadTablet, {})


class LostWithinTest(CallChecks, unittest.TestCase):
    """Point 6."""

    def test_texts_that_are_lost_at_first(self):
        for library in ((1, ((),)), (1, ((),) * 6), (2, ((0,), (0,))), (3, ((0, 1), (1, 2), (0, 2), (), (), ()))):
            for most in (1, 2, 3):
                self.check_answer(lost_within, (library, most), 0)
                self.check_answer(kept_for_ever, (library, most), False)
                self.check_answer(good_writings, (library, most, 0), ())

    def test_one_tablet(self):
        for most in (1, 2, 3):
            self.check_answer(lost_within, (ONE, most), 1)
            self.check_answer(kept_for_ever, (ONE, most), False)
            self.check_answer(good_writings, (ONE, most, 0), ())

    def test_like_tablets_side_by_side(self):
        for most in (1, 2, 3):
            self.check_answer(lost_within, ((1, ((0,), (0,))), most), None)
            self.check_answer(lost_within, (PAIRS, most), None)
            self.check_answer(kept_for_ever, (PAIRS, most), True)
        self.check_answer(good_writings, ((1, ((0,), (0,))), 3, 0), ((1,),))
        self.check_answer(good_writings, (PAIRS, 1, 3), ((2,),))

    def test_void_tablets(self):
        library = (1, ((0,), (0,), ()))
        self.check_answer(good_writings, (library, 1, 0), ((1,),))
        self.check_answer(good_writings, (library, 2, 0), ((1,), (1, 2)))
        self.check_answer(good_writings, (library, 1, 2), ((), (0,), (1,)))
        self.check_answer(good_writings, (library, 2, 2), ((), (0,), (0, 1), (1,)))

    def test_a_melting_by_which_texts_are_lost(self):
        library = (2, ((0,), (0,), (1,)))
        self.check_answer(good_writings, (library, 3, 2), ())
        self.check_answer(lost_within, (library, 3), 1)
        # The others may melt today, but the enemy wins tomorrow whatever is written.
        self.check_answer(good_writings, (library, 1, 0), ((), (1,), (2,)))

    def test_days_are_held_out_where_texts_cannot_be_kept(self):
        library = (2, ((0,), (1,), (0, 1), ()))
        self.check_answer(lost_within, (library, 1), 2)
        self.check_answer(lost_within, (library, 2), None)
        library = (3, ((0,), (1,), (2,), (0, 1, 2)))
        self.check_answer(lost_within, (library, 1), 2)
        self.check_answer(lost_within, (library, 2), 2)
        self.check_answer(lost_within, (library, 3), None)
        self.check_answer(good_writings, (library, 3, 3), ((0, 1, 2),))

    def test_many_days(self):
        longest = {}
        for library in MANY:
            for most in (1, 2, 3):
                day = plain_games.lost_within(library, most)
                if day is not None:
                    longest[most] = max(day, longest.get(most, 0))
        # There are such among the libraries that the next tests compare.
        self.assertGreaterEqual(longest[1], 3)
        self.assertGreaterEqual(longest[2], 2)

    def test_the_order_of_tablets_makes_no_difference_to_the_plain_game(self):
        for texts, whole in ((1, 6), (2, 3), (3, 2)):
            for many in range(1, whole + 1):
                for most in (1, 2, 3):
                    lost = plain_games.lost_days_in_order(texts, many, most)
                    for library in plain.all_libraries(texts, many):
                        self.assertEqual(lost.get(library), plain_games.lost_within(library, most))

    def test_against_the_plain_game(self):
        for library in MANY:
            for most in (1, 2, 3):
                told = (library, most)
                self.assertEqual(lost_within(*told), plain_games.lost_within(*told), told)
                self.assertIs(kept_for_ever(*told), plain_games.kept_for_ever(*told), told)

    def test_all_small_libraries_against_the_plain_game_in_order(self):
        for texts, whole in ((1, 5), (2, 3), (3, 2)):
            for many in range(1, whole + 1):
                for most in (1, 2, 3):
                    lost = plain_games.lost_days_in_order(texts, many, most)
                    for library in plain.all_libraries(texts, many):
                        self.assertEqual(lost_within(library, most), lost.get(library), (library, most))

    def test_good_writings_against_the_plain_game(self):
        dice = plain.Dice(11)
        for library in MANY:
            for most in (1, 2, 3):
                numbers = range(len(library[1])) if library[0] < 3 else [dice.below(len(library[1]))]
                for number in numbers:
                    told = (library, most, number)
                    self.assertEqual(good_writings(*told), plain_games.good_writings(*told), told)

    def test_where_some_library_is_kept_there_is_a_scheme(self):
        for texts in (1, 2, 3):
            for many in range(1, 7):
                for most in (1, 2, 3):
                    told = (texts, many, most)
                    kept = [one for one in plain_games.kept_libraries(*told)[:1] if kept_for_ever(one, most)]
                    self.assertEqual(bool(kept), bool(plain.schemes(*told)), told)


class FamilyTest(CallChecks, unittest.TestCase):
    """Point 7."""

    def check_family(self, library, most):
        """The answer is a family that keeps the library, or None where none does."""
        found = family(library, most)
        if plain_games.kept_for_ever(library, most):
            self.assertIs(type(found), tuple)
            self.assertTrue(plain_games.is_family(found, library, most), (library, most, found))
        else:
            self.assertIsNone(found, (library, most))
        self.check_answer(family, (library, most), found)
        self.check_answer(shows_family, (library, most, found), True)
        return found

    def test_a_library_that_is_not_sorted(self):
        found = self.check_family((2, ((0, 1), (1,), (0,))), 2)
        self.assertIn(SORTED_RING, found)
        self.check_answer(shows_family, ((2, ((0, 1), (1,), (0,))), 2, (SORTED_RING,)), True)
        self.check_answer(shows_family, ((2, ((0, 1), (1,), (0,))), 2, ((2, ((0, 1), (1,), (0,))),)), False)

    def test_edges(self):
        for most in (1, 2, 3):
            self.assertIsNone(self.check_family(ONE, most))
            self.assertIsNone(self.check_family((1, ((),)), most))
            self.assertIsNone(self.check_family((3, ((),) * 6), most))
            self.assertIsNotNone(self.check_family((1, ((0,), ()) * 3), most))
            self.assertIsNotNone(self.check_family(PAIRS, most))

    def test_many_libraries(self):
        for library in MANY:
            for most in (1, 2, 3):
                self.check_family(library, most)

    def test_none_is_a_value_for_a_library_that_is_not_kept(self):
        self.check_answer(shows_family, (RING, 2, None), False)
        self.check_answer(shows_family, (RING, 1, None), True)
        self.check_answer(shows_family, (BARE, 3, None), True)
        self.check_answer(shows_family, ((1, ((),)), 3, None), True)

    def test_values_that_are_no_family(self):
        for value in STRANGE:
            # None is no family either, and RING is kept for ever.
            self.check_answer(shows_family, (RING, 2, value), False)
        for value in STRANGE + [value for value, _ in wrong_libraries()]:
            self.check_answer(shows_family, (RING, 2, (value,)), False)
            self.check_answer(shows_family, (RING, 2, (SORTED_RING, value)), False)
            self.check_answer(shows_family, (RING, 2, (value, SORTED_RING)), False)
        for value in ([SORTED_RING], SORTED_RING, {SORTED_RING: True}, [], {}, ((SORTED_RING,),), ([2, SORTED_RING[1]],)):
            self.check_answer(shows_family, (RING, 2, value), False)

    def test_true_is_no_number_in_a_family(self):
        kept = (1, ((0,), (0,)))
        self.check_answer(shows_family, (kept, 1, (kept,)), True)
        for value in (((True, ((0,), (0,))),), ((1, ((False,), (False,))),), ((1, ((False,), (0,))),)):
            self.assertEqual(value, (kept,))
            self.check_answer(shows_family, (kept, 1, value), False)

    def test_the_empty_tuple(self):
        for library in (RING, BARE, (1, ((),)), PAIRS):
            for most in (1, 2, 3):
                self.check_answer(shows_family, (library, most, ()), False)

    def test_unlike_numbers_of_texts_and_tablets(self):
        one = (1, ((0,), (0,)))
        longer = (1, ((), (0,), (0,)))
        self.check_answer(shows_family, (one, 1, (one,)), True)
        self.check_answer(shows_family, (longer, 1, (longer,)), True)
        self.check_answer(shows_family, (one, 1, (longer,)), False)
        self.check_answer(shows_family, (longer, 1, (one,)), False)
        for value in ((one, longer), (longer, one)):
            self.check_answer(shows_family, (one, 1, value), False)
            self.check_answer(shows_family, (longer, 1, value), False)
        self.check_answer(shows_family, (RING, 2, (one, SORTED_RING)), False)
        self.check_answer(shows_family, (RING, 2, ((1, ((0,),) * 3), SORTED_RING)), False)
        self.check_answer(shows_family, (RING, 2, (SORTED_RING, (3, SORTED_RING[1]))), False)
        self.check_answer(shows_family, (RING, 2, (SORTED_RING, (2, ((0,), (0,), (1,), (1,))))), False)

    def test_tuples_that_do_not_ascend(self):
        two = ((1, ((), (0,), (0,))), (1, ((0,), (0,), (0,))))
        for library in two:
            self.check_answer(shows_family, (library, 1, two), True)
            self.check_answer(shows_family, (library, 1, two[::-1]), False)
            self.check_answer(shows_family, (library, 1, two + two[1:]), False)
            self.check_answer(shows_family, (library, 1, (library, library)), False)

    def test_a_family_of_others_does_not_keep_the_library(self):
        two = ((1, ((), (0,), (0,))), (1, ((0,), (0,), (0,))))
        self.check_answer(shows_family, (two[0], 1, (two[0],)), True)
        self.check_answer(shows_family, (two[0], 1, (two[1],)), False)
        self.check_answer(shows_family, ((1, ((), (), (0,))), 1, two), False)

    def test_every_library_of_a_family_must_be_kept(self):
        lost = (1, ((), (), (0,)))
        self.check_answer(shows_family, ((1, ((), (0,), (0,))), 1, (lost, (1, ((), (0,), (0,))))), False)
        none = (1, ((), (), ()))
        self.check_answer(shows_family, (none, 1, (none,)), False)
        self.check_answer(shows_family, ((1, ((), (0,), (0,))), 1, (none, (1, ((), (0,), (0,))))), False)

    def test_all_tuples_of_few_libraries(self):
        for texts, many in ((1, 1), (1, 2), (1, 3), (1, 4), (2, 1)):
            every = plain.sorted_libraries(texts, many)
            values = [row for size in range(len(every) + 1) for row in combinations(every, size)]
            for most in (1, 2, 3):
                for library in plain.all_libraries(texts, many):
                    for value in values:
                        told = (library, most, value)
                        self.assertIs(shows_family(*told), plain_games.is_family(value, library, most), told)

    def test_families_with_libraries_taken_away_or_put_to_them(self):
        dice = plain.Dice(5)
        shown = 0
        for library in MANY[::2]:
            most = 1 + dice.below(3)
            kept = plain_games.kept_libraries(library[0], len(library[1]), most)
            values = [kept, tuple(one for one in kept if dice.below(8)), tuple(one for one in kept if dice.below(2))]
            values.append(tuple(sorted(set((family(library, most) or ()) + kept[:dice.below(9)]))))
            values.append((family(library, most) or ())[1:])
            values.append(tuple(sorted({*kept, dice.one_of(plain.sorted_libraries(library[0], len(library[1])))})))
            for value in values:
                told = (library, most, value)
                wanted = plain_games.is_family(value, library, most)
                self.assertIs(shows_family(*told), wanted, told)
                shown += wanted
        self.assertGreater(shown, 100)


class DownfallTest(CallChecks, unittest.TestCase):
    """Point 8."""

    def test_lost_at_first_and_never(self):
        for most in (1, 2, 3):
            self.check_answer(downfall, ((1, ((),)), most), ())
            self.check_answer(downfall, ((3, ((0, 1), (1, 2), (0, 2))), most), ())
            self.check_answer(downfall, ((1, ((0,), (0,))), most), None)
            self.check_answer(downfall, (PAIRS, most), None)

    def test_one_day(self):
        self.check_answer(downfall, (ONE, 1), ((0, ()),))
        self.check_answer(downfall, ((1, ((), (0,))), 1), ((1, ()),))
        self.check_answer(downfall, ((2, ((0,), (0,), (1,))), 3), ((2, ()),))

    def test_two_days(self):
        # Behind the first melting the least of the good writings is the void one.
        self.check_answer(downfall, (RING, 1), ((0, ()), (1, ())))

    def test_against_the_plain_game(self):
        for library in MANY:
            for most in (1, 2, 3):
                told = (library, most)
                wanted = plain_games.downfall(*told)
                self.assertEqual(downfall(*told), wanted, told)
                self.assertEqual(repr(downfall(*told)), repr(wanted), told)

    def test_texts_are_lost_on_the_last_day(self):
        for library in MANY[::3]:
            for most in (1, 2, 3):
                days = downfall(library, most)
                if days:
                    self.assertEqual(len(days), lost_within(library, most), (library, most))
                    self.assertEqual(lost_on(library, most, days), len(days) - 1, (library, most))
                    self.assertEqual(days[-1][1], (), (library, most))


class RankTest(CallChecks, unittest.TestCase):
    """Point 9, rank_kept."""

    def test_edges(self):
        for most in (1, 2, 3):
            self.check_answer(rank_kept, (ONE, most), 0)
            self.check_answer(rank_kept, ((1, ((),)), most), 0)
            self.check_answer(rank_kept, ((3, ((),) * 6), most), 0)
            self.check_answer(rank_kept, ((1, ((0,), (0,))), most), 1)
            self.check_answer(rank_kept, (PAIRS, most), 3)

    def test_a_lesser_rank_is_kept_where_texts_are_lost(self):
        self.check_answer(rank_kept, (RING, 1), 1)
        self.check_answer(rank_kept, (RING, 2), 2)
        self.check_answer(rank_kept, ((2, ((0,), (1,))), 3), 1)
        self.check_answer(rank_kept, ((3, ((0, 1), (1, 2), (0, 2))), 2), 2)
        self.check_answer(rank_kept, ((3, ((0,), (1,), (2,), (0, 1, 2))), 2), 2)
        self.check_answer(rank_kept, ((3, ((0,), (1,), (2,), (0, 1, 2))), 3), 3)

    def test_it_is_the_number_of_texts_where_they_are_kept(self):
        for library in MANY[::2]:
            for most in (1, 2, 3):
                told = (library, most)
                self.assertIs(rank_kept(*told) == library[0], plain_games.kept_for_ever(*told), told)

    def test_against_the_plain_game(self):
        for library in MANY:
            for most in (1, 2, 3):
                told = (library, most)
                found = rank_kept(*told)
                self.assertEqual(found, plain_games.rank_kept(*told), told)
                self.assertIs(type(found), int)


class AdditionsTest(CallChecks, unittest.TestCase):
    """Point 9, additions."""

    def test_none_are_needed(self):
        self.check_answer(additions, (RING, 2), ((),))
        for most in (1, 2, 3):
            self.check_answer(additions, (PAIRS, most), ((),))
            self.check_answer(additions, ((1, ((0,), (0,), ())), most), ((),))

    def test_one_text(self):
        for most in (1, 2, 3):
            self.check_answer(additions, (ONE, most), (((0,),),))
            self.check_answer(additions, ((1, ((),)), most), (((0,), (0,)),))
            self.check_answer(additions, ((1, ((),) * 4), most), (((0,), (0,)),))

    def test_none_do(self):
        for most in (1, 2, 3):
            self.check_answer(additions, ((1, ((),) * 5), most), ())
            self.check_answer(additions, ((1, ((),) * 6), most), ())
        self.check_answer(additions, ((3, ((),)), 1), ())
        self.check_answer(additions, ((3, ((0,), (1,), (2,), (0, 1), (0, 2), (1, 2))), 1), ((),))
        self.check_answer(additions, ((3, ((0,), (0,), (0,), (1,), (1,), (2,))), 1), ())

    def test_up_to_six_tablets_in_all(self):
        self.check_answer(additions, ((3, ((0,), (1,), (2,))), 1), plain_games.additions((3, ((0,), (1,), (2,))), 1))
        self.assertIn(((0,), (1,), (2,)), additions((3, ((0,), (1,), (2,))), 1))
        self.assertEqual({len(row) for row in additions((3, ((0, 1, 2),)), 1)}, {5})

    def test_the_least_library_of_three_texts(self):
        # One more tablet than texts, whose sum with all others is void.
        self.check_answer(additions, ((3, ((0,), (1,), (2,))), 3), (((0, 1, 2),),))

    def test_rows_are_put_behind_the_tablets_in_any_order(self):
        self.check_answer(additions, ((2, ((1,), (0,))), 2), (((0, 1),),))
        self.check_answer(additions, ((2, ((0, 1), (0,))), 2), (((1,),),))

    def test_against_the_plain_game(self):
        chosen = MANY[::3] + [library for library in MANY if len(library[1]) <= 2][::2]
        for library in chosen:
            for most in (1, 2, 3):
                told = (library, most)
                found = additions(*told)
                self.assertEqual(found, plain_games.additions(*told), told)
                self.assertEqual(list(found), sorted(found), told)

    def test_no_fewer_do(self):
        for library in [(2, ((0,),)), (2, ((),)), (3, ((0,), (1, 2)))]:
            for most in (1, 2, 3):
                found = additions(library, most)
                self.assertTrue(found)
                for many in range(len(found[0])):
                    for row in combinations_with_replacement(plain.all_tablets(library[0]), many):
                        self.assertFalse(kept_for_ever((library[0], library[1] + row), most))
                for row in found:
                    self.assertTrue(kept_for_ever((library[0], library[1] + row), most))


if __name__ == "__main__":
    unittest.main()
