"""A bench: a library day by day, with each step taken back if needed."""

from meltlibrary.checks import check_game, check_tablet, is_writing
from meltlibrary.errors import BadStep
from meltlibrary.libraries import keep_all, mask_of, sum_at, tablet_of


class Bench:
    """A library whose tablets melt and are written, one step after another."""

    def __init__(self, library, most):
        check_game(library, most)
        self._texts, tablets = library
        self._most = most
        # The tablets at first and behind each step; meltings and writings take turns.
        self._rows = [tablets]

    def melt(self, number):
        """Let a tablet melt."""
        tablets = self._rows[-1]
        check_tablet(number, len(tablets))
        if None in tablets:
            raise BadStep("a tablet has melted today already")
        self._rows.append(tablets[:number] + (None,) + tablets[number + 1:])

    def write(self, numbers):
        """Write the sum of others in the place of the tablet that has melted."""
        tablets = self._rows[-1]
        if None not in tablets:
            raise BadStep("no tablet has melted today")
        place = tablets.index(None)
        if not is_writing(numbers, place, len(tablets), self._most):
            raise BadStep("no ascending tuple of few enough numbers of other tablets")
        fresh = tablet_of(sum_at([mask_of(tablet or ()) for tablet in tablets], numbers))
        self._rows.append(tablets[:place] + (fresh,) + tablets[place + 1:])

    def undo(self):
        """Take the last melting or writing back."""
        if len(self._rows) == 1:
            raise BadStep("there is no step to take back")
        self._rows.pop()

    @property
    def tablets(self):
        """The tuple of the tablets, None in the place of one that has melted."""
        return self._rows[-1]

    @property
    def kept(self):
        """Whether all texts are kept by the tablets that are there."""
        return keep_all([mask_of(tablet) for tablet in self._rows[-1] if tablet is not None], self._texts)

    @property
    def days(self):
        """How many days are over."""
        return (len(self._rows) - 1) // 2
