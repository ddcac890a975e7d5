"""Values that are not allowed, with the error that each must raise and its fields."""

from meltlibrary.errors import BadDays, BadLibrary, BadMost, BadNumber, BadShown, BadString, BadTablet

HUGE = 10 ** 30

# One of each kind of value, none of which is ever a library, a tuple of tablets or days.
STRANGE = [0, 1, -1, HUGE, "", "ab", "texts", True, False, None, [], [0], [(0,)], {}, {0: 1}, {0: 1, 1: 2}]


def wrong_libraries():
    """Pairs of a value that is no library and the part that is wrong."""
    tablets = ((0,), (1,), (0, 1))
    found = [(value, "library") for value in STRANGE]
    found += [(value, "library") for value in [
        (), (2,), (tablets,), (2, tablets, 2), (2, tablets, ()), [2, tablets], [2, [(0,)]], {2: tablets},
        {"texts": 2, "tablets": tablets}, (0, (), ()),
    ]]
    for texts in STRANGE + [4, 0, (), (2,), [2], {2: 2}, "2"]:
        if not (type(texts) is int and 1 <= texts <= 3):
            # Wrong tablets behind wrong texts are not what is named.
            found += [((texts, tablets), "texts"), ((texts, ()), "texts"), ((texts, None), "texts")]
    found += [((tablets, 2), "texts")]
    rows = STRANGE + [
        (), ((),) * 7, tablets * 3, [(0,), (1,)], [[0], [1]], {(0,): (1,)}, "01", ((0,), "1"), ((0,), [1]),
        ([0], (1,)), ((0,), 1), (0, 1), ((0,), None), (None,), ((0,), {}), ((0,), {0: 1}), ((0,), True), (False,),
        ((0,), ""), ((0,), []), ((1, 0),), ((0,), (1, 0)), ((0, 0),), ((0,), (1, 1)), ((0, 1, 0),), ((2,),),
        ((0,), (1, 2)), ((0, 1, 2),), ((-1,),), ((-1, 0),), ((HUGE,),), ((0,), (True,)), ((False,),), ((False, True),),
        ((0, True),), (("0",),), (("a",),), ((None,),), ((0, None),), (((0,),),), (((),),), (([],),), (([0],),),
        (({},),), ((0, {}),), (("",),), ((0, "1"),),
    ]
    found += [((2, value), "tablets") for value in rows]
    found += [((1, ((1,),)), "tablets"), ((1, ((0,), (0, 1))), "tablets"), ((3, ((0, 1, 2, 3),)), "tablets")]
    found += [((3, ((3,),)), "tablets"), ((3, ((2, 0, 1),)), "tablets"), ((3, ((0, 2, 1),)), "tablets")]
    return found


def wrong_most():
    """Values that are no most."""
    return [value for value in STRANGE if value is True or value != 1] + [
        4, -2, -HUGE, "2", "1", (), (2,), ((),), [2], {2: 2}, {"most": 2},
    ]


def wrong_counts(highest):
    """Values that are no integer from 1 to highest."""
    return [value for value in STRANGE if value is True or value != 1] + [
        highest + 1, -2, -HUGE, "2", "1", (), (2,), ((),), [2], {2: 2}, {"texts": 2},
    ]


def wrong_integers(low, high):
    """Values that are no integer from low to high, for a low of 0 and a high above 0."""
    return [value for value in STRANGE if type(value) is not int or not low <= value <= high] + [
        low - 1, high + 1, -2, -HUGE, "2", "1", (), (0,), (1,), ((),), [1], {1: 1}, (low, high),
    ]


def wrong_strings():
    """Values that are no string."""
    return [value for value in STRANGE if type(value) is not str] + [
        (), ("texts 1",), ("texts 1", "a"), ["texts 1", "a"], {"texts 1": "a"}, ("",), [""], ("melt 0 write",), (1, ((),)),
    ]


def wrong_days():
    """Pairs of a value that is no days, for a library of three tablets and a most of 1, and the index."""
    found = [(value, None) for value in STRANGE]
    found += [(value, None) for value in [
        [(0, ())], [[0, []]], {0: ()}, {(0, ()): 1}, ((0, ()),) * 61, (None,) * 61, ((0, ()),) * 200,
        ((9, ()),) + ((0, ()),) * 60,
    ]]
    days = STRANGE + [
        (), (0,), (0, (), ()), [0, ()], [0, []], {0: ()}, (0, []), (0, [1]), (0, {}), (0, {1: 2}), (0, ""), (0, "1"),
        (0, None), (0, 1), (0, True), (0, False), ((), 0), ((), ()), (None, ()), ("0", ()), ("", ()), ([], ()),
        ([0], ()), ({}, ()), ((0,), ()), (True, ()), (False, ()), (True, (0,)), (-1, ()), (3, ()), (HUGE, ()),
        (-HUGE, ()), (0, (0,)), (2, (2,)), (0, (3,)), (0, (-1,)), (0, (HUGE,)), (0, (True,)), (1, (False,)),
        (0, ("1",)), (0, (None,)), (0, ((),)), (0, ((1,),)), (0, ([],)), (0, ({},)), (0, (1, 2)), (0, (2, 1)),
        (0, (1, 1)), (0, (0, 1)), (1, (0, 1, 2)), (0, (1, 2, 3)), (0, (None, 1)), (0, (1, None)),
    ]
    for day in days:
        found += [((day,), 0), (((1, ()), (2, (0,)), day, day), 2), (((0, ()),) * 59 + (day,), 59)]
    return found


def library_errors():
    return [(value, BadLibrary, {"part": part}) for value, part in wrong_libraries()]


def most_errors():
    return [(value, BadMost, {}) for value in wrong_most()]


def texts_errors():
    return [(value, BadNumber, {}) for value in wrong_counts(3)]


def tablets_errors():
    return [(value, BadNumber, {}) for value in wrong_counts(6)]


def days_errors():
    return [(value, BadDays, {"index": index}) for value, index in wrong_days()]


def number_errors():
    """For a library of three tablets."""
    return [(value, BadTablet, {}) for value in wrong_integers(0, 2)]


def chance_days_errors():
    return [(value, BadNumber, {}) for value in wrong_integers(0, 30)]


def string_errors():
    return [(value, BadString, {}) for value in wrong_strings()]


def wrong_figures(many):
    """Values that are no tuple of so many figures, each 0 or 1."""
    good = (0, 1, 1, 0, 1, 0, 0, 1)[:many]
    found = STRANGE + [
        (), good[1:], good + (0,), good * 2 + good, [*good], {figure: 1 for figure in range(many)}, "01101001"[:many],
        (good,), (good,) * many, ([],) * many, ({},) * many, ("",) * many, ("0",) * many, (True,) * many,
        (False,) * many, (None,) * many, ((),) * many, (2,) * many, (-1,) * many, ([0],) * many, ((0,),) * many,
    ]
    for odd in STRANGE + [2, -2, -HUGE, "0", "1", (), (0,), ((),), [1], {1: 1}]:
        if type(odd) is not int or odd not in (0, 1):
            # In the first place, in the last one, and alone beside good ones.
            found += [(odd,) + good[1:], good[:-1] + (odd,), good + (odd,)]
    return found


def wrong_melting_rows():
    """Pairs of a value that is no melting row of a library of three tablets, and the index."""
    found = [(value, None) for value in STRANGE]
    found += [(value, None) for value in [
        [0, 1], [()], {0: 1}, {(0,): 0}, "01", (0,) * 9, (0, 1, 2) * 3, (None,) * 9, (9,) + (0,) * 8, (0,) * 100,
    ]]
    for odd in STRANGE + [3, -2, -HUGE, "0", "1", (), (0,), ((),), [1], {1: 1}, (0, ())]:
        if type(odd) is not int or odd not in (0, 1, 2):
            found += [((odd,), 0), ((0, 1, 2, odd, odd), 3), ((2,) * 7 + (odd,), 7), ((odd, None, 0), 0)]
    return found


def melts_errors(many):
    """For a library of so many tablets."""
    return [(value, BadNumber, {}) for value in wrong_counts(min(3, many))]


def late_errors(many):
    """For a library of so many tablets."""
    return [(value, BadNumber, {}) for value in wrong_integers(0, min(3, many - 1))]


def wrong_errors():
    return [(value, BadNumber, {}) for value in wrong_integers(0, 6)]


def shown_errors(many):
    return [(value, BadShown, {}) for value in wrong_figures(many)]


def melting_row_errors():
    """For a library of three tablets."""
    return [(value, BadDays, {"index": index}) for value, index in wrong_melting_rows()]


def scheme_number_errors(many):
    """For so many schemes, at least one."""
    return [(value, BadNumber, {}) for value in wrong_integers(0, many - 1)]
