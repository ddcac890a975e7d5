"""Points 1, 47 and 48 and the heading meltlibrary/classes.py."""

import unittest

from meltlibrary import classes
from meltlibrary.classes import (
    are_mixed_alike, are_named_alike, least_mixed, least_named, mixed_kinds, named_kinds, scheme_number, scheme_told,
)
from meltlibrary.errors import BadLibrary, BadMost, BadNumber, NoScheme
from meltlibrary.schemes import count_schemes, is_scheme, schemes
from tests import plain, plain_classes
from tests.cases import CallChecks
from tests.plain import RING
from tests.wrong import library_errors, most_errors, scheme_number_errors, tablets_errors, texts_errors

LISTED = {
    "are_named_alike": "one other",
    "are_mixed_alike": "one other",
    "least_named": "library",
    "least_mixed": "library",
    "named_kinds": "texts tablets most",
    "mixed_kinds": "texts tablets most",
    "scheme_number": "library most",
    "scheme_told": "texts tablets most number",
}
SORTED_RING = (2, ((0,), (0, 1), (1,)))
SIX = (3, ((0,), (1,), (2,), (0, 1), (0, 2), (1, 2)))
EVERY = [(texts, tablets, most) for texts in (1, 2, 3) for tablets in range(1, 7) for most in (1, 2, 3)]
MANY = plain.small_libraries()[::23]


class ExamplesTest(CallChecks, unittest.TestCase):
    def test_interface(self):
        self.check_interface(classes, LISTED)

    def test_values(self):
        self.check_answer(least_named, ((2, ((1,), ())),), (2, ((), (0,))))
        self.check_answer(are_mixed_alike, ((2, ((0,), (1,))), (2, ((0, 1), (1,)))), True)
        self.check_answer(mixed_kinds, (2, 3, 2), (SORTED_RING,))
        self.check_answer(scheme_number, (RING, 2), 0)

    def test_by_keywords(self):
        self.assertIs(are_named_alike(other=RING, one=SORTED_RING), True)
        self.assertIs(are_mixed_alike(other=RING, one=SORTED_RING), True)
        self.assertEqual(least_named(library=RING), SORTED_RING)
        self.assertEqual(least_mixed(library=RING), SORTED_RING)
        self.assertEqual(named_kinds(most=2, tablets=3, texts=2), (SORTED_RING,))
        self.assertEqual(mixed_kinds(most=2, tablets=3, texts=2), (SORTED_RING,))
        self.assertEqual(scheme_number(most=2, library=RING), 0)
        self.assertEqual(scheme_told(number=0, most=2, tablets=3, texts=2), SORTED_RING)


class WrongTest(CallChecks, unittest.TestCase):
    def test_wrong_arguments(self):
        for function in (least_named, least_mixed):
            self.check_wrong(function, (RING,), [library_errors()])
        for function in (are_named_alike, are_mixed_alike):
            self.check_wrong(function, (RING, RING), [library_errors(), library_errors()])
        for function in (named_kinds, mixed_kinds):
            self.check_wrong(function, (1, 2, 1), [texts_errors(), tablets_errors(), most_errors()])
        self.check_wrong(scheme_number, (RING, 2), [library_errors(), most_errors()])
        wrong = [texts_errors(), tablets_errors(), most_errors(), scheme_number_errors(2)]
        self.check_wrong(scheme_told, (1, 3, 1, 1), wrong)

    def test_leftmost(self):
        self.check_error(are_named_alike, ((0, ()), (2, ((1, 0),))), BadLibrary, {"part": "texts"})
        self.check_error(are_mixed_alike, ((2, ((1, 0),)), (0, ())), BadLibrary, {"part": "tablets"})
        # Unlike numbers of texts do not make a wrong library right.
        self.check_error(are_named_alike, ((1, ((0,),)), (2, ())), BadLibrary, {"part": "tablets"})
        self.check_error(are_mixed_alike, ((1, ((0,),)), (2, ())), BadLibrary, {"part": "tablets"})
        for function in (named_kinds, mixed_kinds):
            self.check_error(function, (3, 1, 4), BadMost, {})
            self.check_error(function, (4, 1, 4), BadNumber, {})

    def test_no_scheme_comes_behind_the_errors_of_all_arguments(self):
        for value, kind, fields in most_errors():
            self.check_error(scheme_number, ((1, ((),)), value), kind, fields)
            self.check_error(scheme_told, (3, 1, value, 0), kind, fields)


class AlikeTest(CallChecks, unittest.TestCase):
    """Point 47, two libraries."""

    def check_alike(self, one, other, named, mixed):
        for told in ((one, other), (other, one)):
            self.check_answer(are_named_alike, told, named)
            self.check_answer(are_mixed_alike, told, mixed)

    def test_alike_but_for_names(self):
        self.check_alike((2, ((0,), ())), (2, ((), (1,))), True, True)
        self.check_alike((3, ((0,), (1, 2))), (3, ((2,), (0, 1))), True, True)
        self.check_alike((2, ((0,), (0,), (0, 1))), (2, ((0, 1), (1,), (1,))), True, True)

    def test_each_order_of_tablets_is_alike(self):
        self.check_alike(RING, SORTED_RING, True, True)
        self.check_alike((1, ((0,), ())), (1, ((), (0,))), True, True)

    def test_alike_by_a_mixture_alone(self):
        self.check_alike((2, ((0,), (1,))), (2, ((0, 1), (1,))), False, True)
        self.check_alike((2, ((0,),)), (2, ((0, 1),)), False, True)
        self.check_alike((3, ((0,), (1,), (2,))), (3, ((0, 1, 2), (1, 2), (2,))), False, True)

    def test_not_at_all(self):
        self.check_alike((2, ((0,), (0,))), (2, ((0,), (1,))), False, False)
        self.check_alike((1, ((0,), ())), (1, ((0,), (0,))), False, False)
        self.check_alike((1, ((),)), (1, ((0,),)), False, False)
        self.check_alike((3, ((0,), (1,), (0, 1))), (3, ((0,), (1,), (2,))), False, False)

    def test_unlike_numbers(self):
        self.check_alike((1, ((0,),)), (2, ((0,),)), False, False)
        self.check_alike((1, ((),)), (3, ((),)), False, False)
        self.check_alike((2, ((0,), (1,))), (3, ((0,), (1,))), False, False)
        self.check_alike((1, ((0,),)), (1, ((0,), (0,))), False, False)
        self.check_alike((2, ((),)), (2, ((), ())), False, False)

    def test_least(self):
        self.check_answer(least_named, ((1, ((0,), ())),), (1, ((), (0,))))
        self.check_answer(least_named, ((2, ((0, 1), (1,))),), (2, ((0,), (0, 1))))
        self.check_answer(least_mixed, ((2, ((0, 1), (1,))),), (2, ((0,), (0, 1))))
        self.check_answer(least_named, ((3, ((2,), (1, 2))),), (3, ((0,), (0, 1))))
        self.check_answer(least_named, ((2, ((0, 1),)),), (2, ((0, 1),)))
        self.check_answer(least_mixed, ((2, ((0, 1),)),), (2, ((0,),)))
        self.check_answer(least_mixed, ((3, ((2,), (1,), (0,))),), (3, ((0,), (0, 1), (0, 1, 2))))
        self.check_answer(least_named, ((3, ((2,), (1,), (0,))),), (3, ((0,), (1,), (2,))))
        self.check_answer(least_mixed, ((3, ((),) * 6),), (3, ((),) * 6))

    def test_least_against_all_renamings_and_mixtures(self):
        for library in MANY:
            self.assertEqual(least_named(library), min(plain_classes.all_renamed(library)), library)
            self.assertEqual(least_mixed(library), min(plain_classes.all_mixed(library)), library)

    def test_pairs_against_all_renamings_and_mixtures(self):
        dice = plain.Dice(91)
        alike = 0
        for one in MANY[::2]:
            like = [library for library in MANY if library[0] == one[0] and len(library[1]) == len(one[1])]
            others = [dice.one_of(like), dice.one_of(MANY), dice.one_of(sorted(plain_classes.all_mixed(one)))]
            others += [dice.one_of(sorted(plain_classes.all_renamed(one)))]
            for texts, tablets in others:
                other = (texts, tablets[::-1])
                as_sorted = (texts, tuple(sorted(tablets)))
                self.assertIs(are_named_alike(one, other), as_sorted in plain_classes.all_renamed(one), (one, other))
                self.assertIs(are_mixed_alike(one, other), as_sorted in plain_classes.all_mixed(one), (one, other))
                alike += are_mixed_alike(one, other) and not are_named_alike(one, other)
        self.assertGreater(alike, 20)

    def test_all_pairs_of_small_libraries(self):
        for texts, many in ((1, 3), (2, 2), (3, 1)):
            every = plain.all_libraries(texts, many)
            for one in every:
                for other in every:
                    named = least_named(one) == least_named(other)
                    mixed = least_mixed(one) == least_mixed(other)
                    self.assertIs(are_named_alike(one, other), named, (one, other))
                    self.assertIs(are_mixed_alike(one, other), mixed, (one, other))

    def test_the_least_is_alike_and_its_own_least(self):
        for library in MANY[::3]:
            self.assertIs(are_named_alike(library, least_named(library)), True)
            self.assertIs(are_mixed_alike(library, least_mixed(library)), True)
            self.assertEqual(least_named(least_named(library)), least_named(library))
            self.assertEqual(least_mixed(least_named(library)), least_mixed(library))

    def test_each_library_mixed_alike_to_a_scheme_is_one(self):
        for texts, many, most in ((2, 4, 2), (3, 5, 2), (3, 6, 1)):
            for library in plain_classes.schemes(texts, many, most)[::5]:
                for other in sorted(plain_classes.all_mixed(library))[::7]:
                    self.assertIs(is_scheme(other, most), True, (library, other))


class KindsTest(CallChecks, unittest.TestCase):
    """Point 47, kinds."""

    def test_without_a_scheme(self):
        for told in ((1, 1, 3), (2, 3, 1), (2, 2, 3), (3, 4, 2), (3, 5, 1), (3, 3, 3)):
            self.check_answer(named_kinds, told, ())
            self.check_answer(mixed_kinds, told, ())

    def test_one_text(self):
        self.check_answer(named_kinds, (1, 3, 1), ((1, ((), (0,), (0,))), (1, ((0,), (0,), (0,)))))
        self.check_answer(mixed_kinds, (1, 3, 1), ((1, ((), (0,), (0,))), (1, ((0,), (0,), (0,)))))

    def test_fewer_by_mixtures(self):
        self.check_answer(mixed_kinds, (2, 4, 1), ((2, ((0,), (0,), (0, 1), (0, 1))),))
        wanted = ((2, ((0,), (0,), (0, 1), (0, 1))), (2, ((0,), (0,), (1,), (1,))))
        self.check_answer(named_kinds, (2, 4, 1), wanted)

    def test_all_against_the_plain_working_out(self):
        for told in EVERY:
            self.assertEqual(named_kinds(*told), plain_classes.named_kinds(*told), told)
            self.assertEqual(mixed_kinds(*told), plain_classes.mixed_kinds(*told), told)

    def test_kinds_are_schemes_that_ascend(self):
        for told in ((2, 5, 2), (3, 6, 2)):
            for found in (named_kinds(*told), mixed_kinds(*told)):
                self.assertEqual(list(found), sorted(set(found)))
                self.assertLessEqual(set(found), set(schemes(*told)))


class NumbersTest(CallChecks, unittest.TestCase):
    """Point 48."""

    def test_a_library_that_is_not_sorted(self):
        self.check_answer(scheme_number, ((2, ((0, 1), (1,), (0,))), 2), 0)
        self.check_answer(scheme_number, ((1, ((0,), (0,), ())), 1), 0)
        self.check_answer(scheme_number, ((1, ((0,), (0,), (0,))), 1), 1)
        place = plain_classes.schemes(3, 6, 2).index((3, tuple(sorted(SIX[1]))))
        self.check_answer(scheme_number, (SIX, 2), place)

    def test_a_library_that_is_no_scheme(self):
        for told in ((RING, 1), ((1, ((),)), 3), ((2, ((0,), (0,), (1,))), 3), ((1, ((0,),)), 1), ((2, ((0,), (0,), ())), 1)):
            self.check_error(scheme_number, told, NoScheme, {})

    def test_the_first_the_last_and_one_beyond(self):
        for told in EVERY:
            every = plain_classes.schemes(*told)
            for number in (-1, len(every), len(every) + 1):
                self.check_error(scheme_told, told + (number,), BadNumber, {})
            if every:
                self.check_answer(scheme_told, told + (0,), every[0])
                self.check_answer(scheme_told, told + (len(every) - 1,), every[-1])
                self.check_answer(scheme_number, (every[-1], told[2]), len(every) - 1)

    def test_where_there_is_no_scheme_no_number_is_one(self):
        for number in (0, 1, -1, True, False, None, "0", (), (0,)):
            self.check_error(scheme_told, (3, 4, 2, number), BadNumber, {})

    def test_true_and_false_are_no_numbers(self):
        self.check_answer(scheme_told, (1, 3, 1, 1), (1, ((0,), (0,), (0,))))
        self.check_error(scheme_told, (1, 3, 1, True), BadNumber, {})
        self.check_error(scheme_told, (1, 3, 1, False), BadNumber, {})

    def test_there_and_back(self):
        for told in EVERY[::2]:
            many = count_schemes(*told)
            for number in range(0, many, 1 + many // 25):
                library = scheme_told(*told, number)
                self.assertEqual(library, plain_classes.schemes(*told)[number])
                turned = (told[0], library[1][::-1])
                self.assertEqual(scheme_number(turned, told[2]), number)


if __name__ == "__main__":
    unittest.main()
