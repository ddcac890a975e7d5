"""Points 1 and 11 and the heading meltlibrary/benches.py."""

import inspect
import unittest

from meltlibrary import benches
from meltlibrary.benches import Bench
from meltlibrary.errors import BadLibrary, BadMost, BadStep, BadTablet
from tests import plain
from tests.cases import CallChecks, raised
from tests.plain import RING
from tests.wrong import STRANGE, library_errors, most_errors, number_errors

METHODS = {"melt": "self number", "write": "self numbers", "undo": "self"}
PROPERTIES = ("tablets", "kept", "days")
NOT_NUMBERS = STRANGE + [
    (1,), (1, 2), (0, 1), (2, 0), (0, 0), (2, 2), (0, 2, 2), (-1,), (3,), (0, 3), (-1, 0), (True,), (False,),
    (False, 2), (0, True), (None,), (0, None), ("0",), ((),), ((0,),), ([],), ({},), [0, 2], [()], {0: 0, 2: 2}, "02",
    (10 ** 30,), (0, 1, 2), (0, 2, 3), 2, (0, ""),
]


def seen(bench):
    """What a bench shows."""
    return bench.tablets, bench.kept, bench.days


class BenchTest(CallChecks, unittest.TestCase):
    def check_seen(self, bench, tablets, kept, days):
        self.assertEqual(seen(bench), (tablets, kept, days))
        self.assertEqual([type(value) for value in seen(bench)], [tuple, bool, int])

    def check_refused(self, bench, step, arguments, kind):
        """The error, which leaves the bench as it was."""
        before = seen(bench)
        self.assertEqual(raised(step, arguments), (kind, {}), arguments)
        self.assertEqual(seen(bench), before, arguments)


class InterfaceTest(BenchTest):
    def test_interface(self):
        self.assertEqual(Bench.__module__, benches.__name__)
        self.assertEqual(list(inspect.signature(Bench).parameters), ["library", "most"])
        for name, parameters in METHODS.items():
            self.assertTrue(inspect.isfunction(vars(Bench)[name]), name)
            self.assertEqual(list(inspect.signature(vars(Bench)[name]).parameters), parameters.split(), name)
        for name in PROPERTIES:
            self.assertIsInstance(vars(Bench)[name], property, name)

    def test_example(self):
        bench = Bench((2, ((0,), (1,), (0, 1))), 2)
        found = [
            bench.melt(1), bench.tablets, bench.kept, bench.write((0, 2)), bench.tablets, bench.days, bench.undo(),
            bench.kept,
        ]
        wanted = [None, ((0,), None, (0, 1)), True, None, ((0,), (1,), (0, 1)), 1, None, True]
        self.assertEqual(repr(found), repr(wanted))
        self.check_refused(bench, bench.write, ((0, 1),), BadStep)

    def test_by_keywords(self):
        bench = Bench(most=2, library=RING)
        bench.melt(number=0)
        bench.write(numbers=(1, 2))
        self.check_seen(bench, RING[1], True, 1)

    def test_wrong_arguments(self):
        self.check_wrong(Bench, (RING, 2), [library_errors(), most_errors()])
        self.check_error(Bench, ((2, ()), 4), BadLibrary, {"part": "tablets"})
        self.check_error(Bench, (RING, 4), BadMost, {})

    def test_properties_cannot_be_set(self):
        bench = Bench(RING, 2)
        for name in PROPERTIES:
            with self.assertRaises(AttributeError):
                setattr(bench, name, 0)


class MeltTest(BenchTest):
    """Point 11, melt."""

    def test_values_that_are_no_number_of_a_tablet(self):
        bench = Bench(RING, 2)
        for value, kind, _ in number_errors():
            self.check_refused(bench, bench.melt, (value,), kind)
        for many in range(1, 7):
            bench = Bench((1, ((0,),) * many), 1)
            self.check_refused(bench, bench.melt, (many,), BadTablet)
            bench.melt(many - 1)
            self.check_seen(bench, ((0,),) * (many - 1) + (None,), many > 1, 0)

    def test_a_tablet_has_melted_already(self):
        bench = Bench(RING, 2)
        bench.melt(2)
        for number in (0, 1, 2):
            self.check_refused(bench, bench.melt, (number,), BadStep)
        # A value that is no number is named first.
        for value, kind, _ in number_errors():
            self.check_refused(bench, bench.melt, (value,), kind)
        bench.write(())
        bench.melt(2)
        self.check_seen(bench, ((0,), (1,), None), True, 1)

    def test_one_tablet(self):
        bench = Bench((1, ((0,),)), 3)
        self.check_seen(bench, ((0,),), True, 0)
        bench.melt(0)
        self.check_seen(bench, (None,), False, 0)
        self.check_refused(bench, bench.write, ((0,),), BadStep)
        bench.write(())
        self.check_seen(bench, ((),), False, 1)

    def test_texts_that_are_not_kept(self):
        bench = Bench((2, ((0,), (1,), ())), 2)
        bench.melt(0)
        self.check_seen(bench, (None, (1,), ()), False, 0)
        bench.write((1, 2))
        self.check_seen(bench, ((1,), (1,), ()), False, 1)

    def test_melted_tablet_is_not_the_void_one(self):
        bench = Bench((1, ((), (0,), ())), 1)
        bench.melt(2)
        self.check_seen(bench, ((), (0,), None), True, 0)
        bench.write((0,))
        self.check_seen(bench, ((), (0,), ()), True, 1)


class WriteTest(BenchTest):
    """Point 11, write."""

    def test_before_any_melting(self):
        bench = Bench(RING, 2)
        for value in [(), (0,), (1, 2)] + NOT_NUMBERS:
            self.check_refused(bench, bench.write, (value,), BadStep)
        bench.melt(0)
        bench.write((1,))
        for value in [(), (0,), (1, 2)]:
            self.check_refused(bench, bench.write, (value,), BadStep)

    def test_values_that_are_no_numbers_of_others(self):
        bench = Bench(RING, 2)
        bench.melt(1)
        for value in NOT_NUMBERS:
            self.check_refused(bench, bench.write, (value,), BadStep)
        bench.write((0, 2))
        self.check_seen(bench, RING[1], True, 1)

    def test_most_bounds_the_numbers(self):
        library = (3, ((0,), (1,), (2,), (), (0, 1, 2)))
        for many in range(5):
            for most in (1, 2, 3):
                bench = Bench(library, most)
                bench.melt(4)
                if many <= most:
                    bench.write(tuple(range(many)))
                    self.check_seen(bench, library[1][:4] + (tuple(range(min(many, 3))),), True, 1)
                else:
                    self.check_refused(bench, bench.write, (tuple(range(many)),), BadStep)

    def test_the_sum_is_of_the_tablets_that_are_there(self):
        bench = Bench(RING, 2)
        bench.melt(0)
        bench.write((1,))
        bench.melt(2)
        bench.write((0, 1))
        self.check_seen(bench, ((1,), (1,), ()), False, 2)


class UndoTest(BenchTest):
    """Point 11, undo."""

    def test_at_the_beginning(self):
        bench = Bench(RING, 2)
        self.check_refused(bench, bench.undo, (), BadStep)
        bench.melt(0)
        bench.undo()
        self.check_refused(bench, bench.undo, (), BadStep)
        self.check_seen(bench, RING[1], True, 0)

    def test_of_a_melting_and_of_a_writing(self):
        bench = Bench(RING, 2)
        bench.melt(1)
        bench.undo()
        self.check_seen(bench, RING[1], True, 0)
        self.check_refused(bench, bench.write, ((0, 2),), BadStep)
        bench.melt(0)
        bench.write(())
        self.check_seen(bench, ((), (1,), (0, 1)), True, 1)
        bench.undo()
        self.check_seen(bench, (None, (1,), (0, 1)), True, 0)
        self.check_refused(bench, bench.melt, (1,), BadStep)
        bench.write((1, 2))
        self.check_seen(bench, RING[1], True, 1)
        bench.undo()
        bench.undo()
        self.check_seen(bench, RING[1], True, 0)

    def test_days_behind_each(self):
        bench = Bench(RING, 2)
        days = []
        for number in (0, 1, 2):
            bench.melt(number)
            days.append(bench.days)
            bench.write(())
            days.append(bench.days)
        for _ in range(6):
            bench.undo()
            days.append(bench.days)
        self.assertEqual(days, [0, 1, 1, 2, 2, 3, 2, 2, 1, 1, 0, 0])


class WalksTest(BenchTest):
    def test_benches_do_not_share_anything(self):
        one, other = Bench(RING, 2), Bench(RING, 2)
        one.melt(0)
        self.check_seen(other, RING[1], True, 0)
        other.melt(1)
        self.check_seen(one, (None, (1,), (0, 1)), True, 0)

    def test_many_days(self):
        bench = Bench(RING, 2)
        for day in range(100):
            bench.melt(day % 3)
            bench.write(tuple(number for number in range(3) if number != day % 3))
        self.check_seen(bench, RING[1], True, 100)

    def test_steps_against_a_plain_history(self):
        dice = plain.Dice(21)
        for library in plain.small_libraries()[::60]:
            most = 1 + dice.below(3)
            bench = Bench(library, most)
            history = [(library[1], None)]
            for _ in range(30):
                self.step(bench, library[0], most, history, dice)
                tablets = history[-1][0]
                kept = plain.keep(library[0], [tablet for tablet in tablets if tablet is not None])
                self.check_seen(bench, tablets, kept, (len(history) - 1) // 2)

    def step(self, bench, texts, most, history, dice):
        """One step of a bench and of the plain history of its tablets and what has melted."""
        tablets, melted = history[-1]
        many = len(tablets)
        if dice.below(3) == 0:
            if len(history) == 1:
                self.check_refused(bench, bench.undo, (), BadStep)
            else:
                self.assertIsNone(bench.undo())
                history.pop()
        elif melted is None:
            number = dice.below(many)
            self.assertIsNone(bench.melt(number))
            history.append((tablets[:number] + (None,) + tablets[number + 1:], number))
        else:
            row = dice.one_of(plain.writings(many, most, melted))
            self.assertIsNone(bench.write(row))
            fresh = plain.sum_of([tablets[k] for k in row])
            history.append((tablets[:melted] + (fresh,) + tablets[melted + 1:], None))


if __name__ == "__main__":
    unittest.main()
