"""Points 1 and 10 and the heading meltlibrary/chances.py."""

import unittest
from math import gcd

from meltlibrary import chances
from meltlibrary.chances import best_chance, idle_chance
from meltlibrary.errors import BadLibrary, BadMost, BadNumber
from meltlibrary.libraries import keeps
from tests import plain, plain_games
from tests.cases import CallChecks
from tests.plain import RING
from tests.wrong import chance_days_errors, library_errors, most_errors

LISTED = {"best_chance": "library most days", "idle_chance": "library days"}
BARE = (2, ((0,), (1,), ()))
ONE = (1, ((0,),))


class ExamplesTest(CallChecks, unittest.TestCase):
    def test_interface(self):
        self.check_interface(chances, LISTED)

    def test_values(self):
        self.check_answer(best_chance, (RING, 2, 9), (1, 1))
        self.check_answer(best_chance, (BARE, 2, 1), (1, 3))
        self.check_answer(idle_chance, (RING, 1), (1, 1))
        self.check_answer(idle_chance, (RING, 2), (0, 1))
        self.check_answer(idle_chance, (BARE, 1), (1, 3))

    def test_by_keywords(self):
        self.assertEqual(best_chance(days=1, most=2, library=BARE), (1, 3))
        self.assertEqual(idle_chance(days=1, library=BARE), (1, 3))


class WrongTest(CallChecks, unittest.TestCase):
    def test_wrong_arguments(self):
        self.check_wrong(best_chance, (RING, 2, 1), [library_errors(), most_errors(), chance_days_errors()])
        self.check_wrong(idle_chance, (RING, 1), [library_errors(), chance_days_errors()])

    def test_days_from_0_to_30(self):
        for days in (0, 1, 29, 30):
            self.check_answer(best_chance, (RING, 2, days), (1, 1))
            self.check_answer(idle_chance, ((1, ((0,),)), days), (0, 1) if days else (1, 1))
        for days in (-1, 31, -30, 10 ** 20):
            self.check_error(best_chance, (RING, 2, days), BadNumber, {})
            self.check_error(idle_chance, (RING, days), BadNumber, {})
            # Texts that are lost at first do not make the days good.
            self.check_error(best_chance, ((1, ((),)), 2, days), BadNumber, {})
            self.check_error(idle_chance, ((1, ((),)), days), BadNumber, {})

    def test_leftmost_of_three(self):
        self.check_error(best_chance, ((2, ()), 0, 31), BadLibrary, {"part": "tablets"})
        self.check_error(best_chance, (RING, 0, 31), BadMost, {})
        self.check_error(idle_chance, (None, 31), BadLibrary, {"part": "library"})


class ChancesTest(CallChecks, unittest.TestCase):
    """Point 10."""

    def test_no_days(self):
        for library in plain.small_libraries()[::9]:
            wanted = (1, 1) if plain.keep(*library) else (0, 1)
            self.check_answer(best_chance, (library, 1 + len(library[1]) % 3, 0), wanted)
            self.check_answer(idle_chance, (library, 0), wanted)

    def test_texts_that_are_lost_at_first(self):
        for library in ((1, ((),)), (2, ((0,), (0,))), (3, ((0, 1), (1, 2), (0, 2), (), (), ()))):
            for days in (0, 1, 2, 30):
                self.check_answer(best_chance, (library, 3, days), (0, 1))
                self.check_answer(idle_chance, (library, days), (0, 1))

    def test_one_tablet(self):
        for most in (1, 2, 3):
            self.check_answer(best_chance, (ONE, most, 0), (1, 1))
            self.check_answer(best_chance, (ONE, most, 1), (0, 1))
            self.check_answer(best_chance, (ONE, most, 30), (0, 1))
        self.check_answer(idle_chance, (ONE, 0), (1, 1))
        self.check_answer(idle_chance, (ONE, 1), (0, 1))

    def test_more_days_than_tablets(self):
        for many in range(1, 7):
            library = (1, ((0,),) * many)
            self.check_answer(idle_chance, (library, many - 1), (1, 1))
            for days in (many, many + 1, 7, 30):
                self.check_answer(idle_chance, (library, days), (0, 1))

    def test_texts_that_are_kept_for_ever(self):
        pairs = (3, ((0,), (0,), (1,), (1,), (2,), (2,)))
        for library, most in ((RING, 2), ((1, ((0,), (0,))), 1), (pairs, 1), (pairs, 3)):
            for days in (1, 2, 30):
                self.check_answer(best_chance, (library, most, days), (1, 1))

    def test_a_copy_is_the_best_that_can_be_written(self):
        # Behind the first day there is a tablet without which a text is lost: one of three.
        self.check_answer(best_chance, (RING, 1, 1), (1, 1))
        self.check_answer(best_chance, (RING, 1, 2), (2, 3))
        # If one of the two like ones melts, it is written again.
        self.check_answer(best_chance, (RING, 1, 3), (4, 9))
        self.check_answer(best_chance, (RING, 1, 30), (2 ** 29, 3 ** 29))

    def test_each_of_like_tablets_is_as_likely(self):
        library = (2, ((0,), (1,), (1,), (1,)))
        self.check_answer(best_chance, (library, 1, 1), (3, 4))
        self.check_answer(idle_chance, (library, 1), (3, 4))
        self.check_answer(idle_chance, (library, 2), (1, 2))
        self.check_answer(idle_chance, (library, 3), (0, 1))
        # Of the fifteen pairs of tablets only one holds all that keep the first text.
        self.check_answer(idle_chance, ((2, ((0,), (0,), (1,), (1,), (1,), (1,))), 2), (14, 15))

    def test_lowest_terms(self):
        for library in plain.small_libraries()[::50]:
            for days in (1, 2, 3, 17):
                for part, whole in (best_chance(library, 1, days), idle_chance(library, days)):
                    self.assertEqual(gcd(part, whole), 1, (library, days))
                    self.assertTrue(0 <= part <= whole, (library, days))

    def test_idle_against_all_rows_of_meltings(self):
        for library in plain.small_libraries()[::5]:
            for days in range(len(library[1]) + 2):
                told = (library, days)
                self.assertEqual(idle_chance(*told), plain_games.idle_chance(*told), told)

    def test_best_against_all_rows_of_meltings(self):
        for library in plain.small_libraries()[::17]:
            for most in (1, 2, 3):
                for days in range(4):
                    told = (library, most, days)
                    self.assertEqual(best_chance(*told), plain_games.best_chance(*told), told)

    def test_many_days_against_all_rows_of_meltings(self):
        dice = plain.Dice(9)
        kept = [library for library in plain.small_libraries() if keeps(library)]
        for library in kept[::150]:
            told = (library, 1 + dice.below(2), 4 + dice.below(27))
            self.assertEqual(best_chance(*told), plain_games.best_chance(*told), told)

    def test_the_best_is_never_less_than_idle(self):
        for library in plain.small_libraries()[::29]:
            for days in range(7):
                best, whole = best_chance(library, 1, days)
                idle, all_rows = idle_chance(library, days)
                self.assertGreaterEqual(best * all_rows, idle * whole, (library, days))


if __name__ == "__main__":
    unittest.main()
