"""Point 1: equal arguments have equal answers, in any order of calls, and no call leaves a trace."""

import copy
import unittest

from meltlibrary import chances, classes, floods, games, libraries, misread, notation, schemes, wear
from meltlibrary.benches import Bench
from meltlibrary.errors import LibraryError
from tests.plain import RING, Dice

SORTED_RING = (2, ((0,), (0, 1), (1,)))
BARE = (2, ((0,), (1,), ()))
SIX = (3, ((0,), (1,), (2,), (0, 1), (0, 2), (1, 2)))
DAYS = ((0, (1, 2)), (1, ()))


def all_calls():
    """Pairs of a function and its arguments, wrong ones among them."""
    found = [(notation.read_library, ("texts 2\nab\n-",)), (notation.read_library, ("texts 2\nba",))]
    found += number_calls()
    for library in (RING, BARE, SIX, (1, ((0,),)), (2, [(0,)])):
        for function in (libraries.spanned, libraries.rank, notation.write_library):
            found.append((function, (library,)))
        found += misread_calls(library) + alike_calls(library)
        found.append((chances.idle_chance, (library, 1)))
        for most in (1, 2, 0):
            for function in (
                games.lost_within, games.kept_for_ever, games.family, games.downfall, games.rank_kept, games.additions,
                schemes.tame, schemes.rings,
            ):
                found.append((function, (library, most)))
            for number in (0, 2, None):
                found.append((games.good_writings, (library, most, number)))
                found.append((chances.best_chance, (library, most, number)))
            for value in (None, (), ((2, ((0,), (0, 1), (1,))),), [SIX], {1: 1}):
                found.append((games.shows_family, (library, most, value)))
            for days in (DAYS, (), [DAYS]):
                found.append((notation.write_days, (library, most, days)))
                found.append((notation.tale, (library, most, days)))
                found.append((walk, (library, most, days)))
            found.append((notation.read_days, (library, most, "melt 0 write 1 2\nmelt 1 write")))
            found += flood_calls(library, most) + wear_calls(library, most)
    return found


def number_calls():
    """Calls that are given numbers alone."""
    found = []
    for told in ((1, 2, 1), (2, 3, 2), (3, 6, 1), (3, 4, 2), (3, 7, 2)):
        found += [(function, told) for function in (schemes.schemes, classes.named_kinds, classes.mixed_kinds)]
        for number in (0, 1, 2, None):
            found += [(floods.flood_schemes, told + (number,)), (classes.scheme_told, told + (number,))]
    return found


def misread_calls(library):
    found = [(misread.apart, (library,))]
    for wrong in (0, 2, 7):
        found += [(misread.can_tell, (library, wrong)), (misread.can_right, (library, wrong))]
        for row in ((1, 0, 0), (1, 1, 1, 0, 0, 1), [1]):
            found += [(misread.contents_told, (library, row, wrong)), (misread.fewest_wrong, (library, row))]
    for contents in ((1, 1), (0, 1, 1), (1,), [0, 1]):
        found.append((misread.shown, (library, contents)))
    return found


def alike_calls(library):
    found = [(classes.least_named, (library,)), (classes.least_mixed, (library,))]
    for other in (RING, (2, ((0, 1), (1,), (1,))), SIX, (2, [()])):
        found += [(classes.are_named_alike, (library, other)), (classes.are_mixed_alike, (library, other))]
    return found


def flood_calls(library, most):
    found = [(classes.scheme_number, (library, most))]
    for number in (0, 1, 2, 3):
        for function in (
            floods.flood_lost_within, floods.flood_kept, floods.flood_family, floods.is_flood_scheme,
            floods.late_lost_within, floods.late_kept,
        ):
            found.append((function, (library, most, number)))
        for value in (None, (), (SORTED_RING,), [SIX]):
            found.append((floods.shows_flood_family, (library, most, number, value)))
    return found


def wear_calls(library, most):
    found = []
    for number in (0, 2, 9):
        found += [(wear.rewritings, (library, most, number)), (wear.fewest_reads, (library, most, number))]
    for row in ((), (0,), (2, 0, 1), [0]):
        found += [(wear.least_wear, (library, most, row)), (wear.even_writings, (library, most, row))]
        for value in (None, (), ((1, 2),), [()]):
            found.append((wear.shows_even_writings, (library, most, row, value)))
    for row in ((1, 0, 0), (1, 1, 1, 0, 0, 1), [1]):
        found.append((misread.failing_rings, (library, most, row)))
    return found


def walk(library, most, days):
    """What a bench shows over days, the last step taken back."""
    bench = Bench(library, most)
    for number, others in days:
        bench.melt(number)
        bench.write(others)
    shown = bench.tablets, bench.kept, bench.days
    bench.undo()
    return shown, bench.tablets, bench.kept, bench.days


def answer(function, arguments):
    """The answer or the error with its fields, written out."""
    try:
        return repr(function(*arguments))
    except LibraryError as error:
        return type(error).__name__ + repr(vars(error))
    except TypeError:
        # Days that are none cannot be walked over by walk itself.
        return "TypeError"


class CallsTest(unittest.TestCase):
    def test_any_order_of_calls(self):
        calls = all_calls()
        before = copy.deepcopy([arguments for _, arguments in calls])
        first = [answer(function, arguments) for function, arguments in calls]
        places = list(range(len(calls)))
        dice = Dice(41)
        for turn in range(3):
            order = places[::-1] if turn == 0 else sorted(places, key=lambda place: dice.below(1000))
            for place in order:
                function, arguments = calls[place]
                self.assertEqual(answer(function, arguments), first[place], (function.__name__, arguments))
        self.assertEqual(repr([arguments for _, arguments in calls]), repr(before))

    def test_equal_arguments_that_are_other_objects(self):
        for function, arguments in all_calls():
            self.assertEqual(answer(function, copy.deepcopy(arguments)), answer(function, arguments), function.__name__)


if __name__ == "__main__":
    unittest.main()
