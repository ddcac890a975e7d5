"""Points 1, 4 and 5 and the heading meltlibrary/schemes.py."""

import unittest

from meltlibrary import schemes as module
from meltlibrary.errors import BadLibrary, BadMost, BadNumber, NoScheme
from meltlibrary.schemes import can_be, count_schemes, fewest_tablets, is_scheme, rings, scheme, schemes, tame
from tests import plain
from tests.cases import CallChecks
from tests.plain import RING
from tests.wrong import library_errors, most_errors, tablets_errors, texts_errors

LISTED = {
    "tame": "library most",
    "rings": "library most",
    "schemes": "texts tablets most",
    "is_scheme": "library most",
    "can_be": "texts tablets most",
    "scheme": "texts tablets most",
    "count_schemes": "texts tablets most",
    "fewest_tablets": "texts most",
}
EVERY = [(texts, tablets, most) for texts in (1, 2, 3) for tablets in range(1, 7) for most in (1, 2, 3)]


class ExamplesTest(CallChecks, unittest.TestCase):
    def test_interface(self):
        self.check_interface(module, LISTED)

    def test_values(self):
        self.check_answer(tame, (RING, 2), (0, 1, 2))
        self.check_answer(tame, (RING, 1), ())
        self.check_answer(rings, (RING, 2), ((0, 1, 2),))
        self.check_answer(is_scheme, (RING, 2), True)
        self.check_answer(is_scheme, (scheme(3, 5, 2), 2), True)
        self.check_answer(can_be, (3, 4, 2), False)
        self.check_answer(fewest_tablets, (3, 2), 5)
        self.check_answer(schemes, (2, 3, 2), ((2, ((0,), (0, 1), (1,))),))
        self.check_answer(count_schemes, (2, 3, 1), 0)

    def test_error(self):
        self.check_error(scheme, (3, 4, 2), NoScheme, {})

    def test_by_keywords(self):
        self.assertEqual(tame(library=RING, most=2), (0, 1, 2))
        self.assertEqual(fewest_tablets(most=2, texts=3), 5)
        self.assertIs(can_be(most=2, tablets=4, texts=3), False)


class TameTest(CallChecks, unittest.TestCase):
    """Point 4."""

    def test_void_tablets_are_tame_and_rings_by_themselves(self):
        self.check_answer(tame, ((1, ((),)), 1), (0,))
        self.check_answer(rings, ((1, ((),)), 1), ((0,),))
        library = (2, ((), (0,), (), (1,)))
        self.check_answer(tame, (library, 3), (0, 2))
        self.check_answer(rings, (library, 3), ((0,), (2,)))

    def test_like_tablets_are_tame_and_rings_of_two(self):
        library = (1, ((0,), (0,), (0,)))
        for most in (1, 2, 3):
            self.check_answer(tame, (library, most), (0, 1, 2))
            self.check_answer(rings, (library, most), ((0, 1), (0, 2), (1, 2)))

    def test_most_bounds_a_ring(self):
        library = (3, ((0,), (1,), (2,), (0, 1, 2)))
        for most in (1, 2):
            self.check_answer(tame, (library, most), ())
            self.check_answer(rings, (library, most), ())
            self.check_answer(is_scheme, (library, most), False)
        self.check_answer(tame, (library, 3), (0, 1, 2, 3))
        self.check_answer(rings, (library, 3), ((0, 1, 2, 3),))
        self.check_answer(is_scheme, (library, 3), True)

    def test_a_ring_holds_no_lesser_one(self):
        library = (2, ((0,), (0,), (1,), (1,)))
        self.check_answer(rings, (library, 3), ((0, 1), (2, 3)))

    def test_rings_ascend_as_python_compares_them(self):
        library = (2, ((0, 1), (1,), (0,), (1,), (), (0,)))
        wanted = ((0, 1, 2), (0, 1, 5), (0, 2, 3), (0, 3, 5), (1, 3), (2, 5), (4,))
        self.check_answer(rings, (library, 2), wanted)

    def test_a_single_tablet_is_wild(self):
        self.check_answer(tame, ((1, ((0,),)), 3), ())
        self.check_answer(rings, ((1, ((0,),)), 3), ())
        self.check_answer(is_scheme, ((1, ((0,),)), 3), False)

    def test_tame_alone_is_no_scheme(self):
        library = (2, ((0,), (0,), ()))
        self.check_answer(tame, (library, 1), (0, 1, 2))
        self.check_answer(is_scheme, (library, 1), False)

    def test_kept_alone_is_no_scheme(self):
        self.check_answer(is_scheme, ((2, ((0,), (0,), (1,))), 1), False)

    def test_against_the_plain_working_out(self):
        for library in plain.small_libraries()[::2]:
            for most in (1, 2, 3):
                told = (library, most)
                self.assertEqual(tame(*told), plain.tame(*told), told)
                self.assertEqual(rings(*told), plain.rings(*told), told)
                self.assertIs(is_scheme(*told), plain.is_scheme(*told), told)
                in_rings = {number for row in rings(*told) for number in row}
                self.assertEqual(tame(*told), tuple(sorted(in_rings)), told)

    def test_wrong_arguments(self):
        for function in (tame, rings, is_scheme):
            self.check_wrong(function, (RING, 2), [library_errors(), most_errors()])
            self.check_error(function, ((2, (), 2), 0), BadLibrary, {"part": "library"})


class SchemesTest(CallChecks, unittest.TestCase):
    """Point 5."""

    def test_all_against_the_plain_working_out(self):
        for told in EVERY:
            wanted = plain.schemes(*told)
            self.check_answer(schemes, told, wanted)
            self.check_answer(count_schemes, told, len(wanted))
            self.check_answer(can_be, told, bool(wanted))

    def test_any_scheme_is_one(self):
        for told in EVERY:
            texts, tablets, most = told
            sorted_schemes = plain.schemes(*told)
            if sorted_schemes:
                found = scheme(*told)
                self.assertEqual((found[0], len(found[1])), (texts, tablets), told)
                self.assertIn((texts, tuple(sorted(found[1]))), sorted_schemes, told)
                self.assertTrue(plain.is_scheme(found, most), told)
                self.check_answer(scheme, told, found)
            else:
                self.check_error(scheme, told, NoScheme, {})

    def test_can_be_as_the_document_counts(self):
        for texts, tablets, most in EVERY:
            wanted = tablets >= texts + (texts + most - 1) // most
            self.check_answer(can_be, (texts, tablets, most), wanted)

    def test_one_text(self):
        self.check_answer(schemes, (1, 1, 3), ())
        self.check_answer(schemes, (1, 2, 1), ((1, ((0,), (0,))),))
        self.check_answer(schemes, (1, 3, 1), ((1, ((), (0,), (0,))), (1, ((0,), (0,), (0,)))))

    def test_three_texts_on_six_tablets(self):
        self.check_answer(can_be, (3, 6, 1), True)
        pairs = schemes(3, 6, 1)
        self.assertEqual(len(pairs), 28)
        self.assertIn((3, ((0,), (0,), (1,), (1,), (2,), (2,))), pairs)
        self.assertEqual(list(pairs), sorted(pairs))

    def test_fewest_tablets_against_a_search_without_a_bound(self):
        for texts in (1, 2, 3):
            for most in (1, 2, 3):
                # The search goes on above 6 tablets until there is a scheme.
                tablets = 1
                while not plain.schemes(texts, tablets, most):
                    tablets += 1
                self.check_answer(fewest_tablets, (texts, most), tablets)

    def test_fewest_tablets_is_not_bound_to_what_a_library_can_have(self):
        self.check_answer(fewest_tablets, (3, 1), 6)
        self.check_answer(fewest_tablets, (3, 3), 4)
        self.check_answer(fewest_tablets, (1, 3), 2)
        self.check_error(fewest_tablets, (4, 1), BadNumber, {})

    def test_wrong_arguments(self):
        wrong = [texts_errors(), tablets_errors(), most_errors()]
        for function in (can_be, scheme, schemes, count_schemes):
            self.check_wrong(function, (1, 2, 1), wrong)
        self.check_wrong(fewest_tablets, (3, 2), [texts_errors(), most_errors()])

    def test_no_scheme_comes_behind_the_errors_of_all_arguments(self):
        for value, kind, fields in most_errors():
            self.check_error(scheme, (3, 1, value), kind, fields)
        self.check_error(scheme, (3, 7, 4), BadNumber, {})
        self.check_error(scheme, (3, 1, 4), BadMost, {})


if __name__ == "__main__":
    unittest.main()
