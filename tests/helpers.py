"""What the tests of all modules have in common."""

import copy
import inspect
import unittest
from fractions import Fraction

from etasure.errors import TooMany


class Stubborn:
    """A value with which nothing can be done."""

    def __eq__(self, other):
        raise RuntimeError("not to be compared")

    def __hash__(self):
        raise RuntimeError("not to be hashed")

    def __len__(self):
        raise RuntimeError("not to be measured")

    def __iter__(self):
        raise RuntimeError("not to be iterated")

    def __bool__(self):
        raise RuntimeError("not to be tested")

    def __str__(self):
        raise RuntimeError("not to be shown")

    __repr__ = __str__


def _loop():
    looped = [1]
    looped.append(looped)
    return looped


# No numbers, rows, words, matrices, cusps, paths (but for ()) or quotients (but for {}).
STRANGE = [
    None, True, False, 1.0, 0.5, float("nan"), float("inf"), 1j, "", "1", "1001", b"", b"12", object(), Stubborn(),
    int, len, lambda: 1, range(4), iter([1, 2]), {1}, set(), frozenset([1]), {None: 1}, {"a": 2}, [[]], [()], ({},),
    [None], (None,), [True], (True, True), [1, 2.0], (1.0, 0, 0, 1.0), ("1", "0"), [Stubborn()], (Stubborn(),) * 4,
    _loop(), ((1, 0), (0, 1)), bytearray(b"12"), NotImplemented, ...,
]

NO_NUMBERS = [None, True, False, 1.0, float("nan"), "1", b"1", [1], (1,), {1: 1}, object(), Stubborn()]
NO_LEVELS = NO_NUMBERS + [0, -1, 361, 10 ** 40, -(10 ** 40)]
NO_MOSTS = NO_NUMBERS + [-1, 3001, 10 ** 40]
NO_ROWS = [
    None, True, 1, 1.0, "12", b"12", [], (), [True], [1, False], [1.0], (None,), [[1]], {0: 1}, {1}, range(3),
    [0] * 3002, (1,) * 3002, iter([1]), object(), Stubborn(), [1, Stubborn()],
]
NO_MATRICES = [
    None, True, 1, "1001", [1, 0, 0, 1], (1, 0, 0), (1, 0, 0, 1, 0), (), (1, 0, 0, 2), (1, 0, 0, -1), (0, 1, 1, 0),
    (0, 0, 0, 0), (True, 0, 0, 1), (1, 0, 0, True), (1, False, 0, 1), (1.0, 0, 0, 1), (1, 0, None, 1),
    ((1, 0), (0, 1)), (2, 1, 1, 2), {1: 1}, object(), Stubborn(),
]
NO_CUSPS = [
    None, True, 1, "10", [1, 0], (1,), (1, 0, 0), (), (2, 4), (3, -1), (-1, 0), (2, 0), (0, 0), (0, 2), (True, 0),
    (1, False), (1, True), (1.0, 0), (None, 1), {1: 0}, object(), Stubborn(),
]
NO_QUOTIENTS = [
    None, True, 1, "one", [], (), [(1, 1)], {1}, {0: 1}, {-1: 1}, {361: 1}, {1: 0}, {1: 100}, {1: -100}, {True: 1},
    {1: True}, {2: False}, {1: 1.0}, {1.0: 1}, {"1": 1}, {1: "1"}, {1: None}, {None: 1}, {(1, 1): 1}, {1: [1]},
    {1: 1, 2: 0}, {1: Stubborn()}, object(), Stubborn(),
]


def as_tuples(thing):
    """The same with tuples in the place of all lists."""
    if isinstance(thing, (list, tuple)):
        return tuple([as_tuples(part) for part in thing])
    return thing


def as_lists(thing):
    """The same with lists in the place of all tuples."""
    if isinstance(thing, (list, tuple)):
        return [as_lists(part) for part in thing]
    return thing


class Case(unittest.TestCase):
    """A test case that asks functions in all the ways the document lets."""

    def tell(self, function, *arguments):
        """What the function tells; by position, by name, again, and with tuples for lists it must be the same."""
        kept = copy.deepcopy(arguments)
        told = function(*arguments)
        self.assertEqual(arguments, kept, "an argument was changed")
        names = list(inspect.signature(function).parameters)
        named = dict(reversed(list(zip(names, arguments))))
        self.assert_same(function(**named), told)
        self.assert_same(function(*[as_tuples(argument) for argument in arguments]), told)
        return told

    def assert_same(self, one, other):
        """Both are equal and of equal kinds."""
        self.assertEqual(one, other)
        self.assertEqual(repr(one), repr(other))

    def fails(self, error, function, *arguments):
        """The function raises just this error."""
        with self.assertRaises(Exception) as caught:
            function(*arguments)
        self.assertIs(type(caught.exception), error, f"{function.__name__}: {caught.exception!r}")
        return caught.exception

    def fails_many(self, most, function, *arguments):
        """The function raises TooMany with this attribute."""
        self.assertEqual(self.fails(TooMany, function, *arguments).most, most)

    def fails_in_turn(self, function, arguments, wrongs):
        """Each parameter has its error, and the first one counts if two are wrong.

        arguments are right ones, wrongs tells for each parameter the error and the wrong values.
        """
        function(*arguments)
        for place, (error, values) in enumerate(wrongs):
            for value in values:
                changed = list(arguments)
                changed[place] = value
                self.fails(error, function, *changed)
                for later in range(place + 1, len(wrongs)):
                    for other in wrongs[later][1][:3] + wrongs[later][1][-3:]:
                        changed[later] = other
                        self.fails(error, function, *changed)
                    changed[later] = arguments[later]

    def judges(self, function, right, wrong, *ahead):
        """The function tells True for all right things and False for all wrong and strange ones."""
        for thing in right:
            self.assertIs(function(*ahead, thing), True, f"{function.__name__}: {str(thing)[:99]}")
        for thing in wrong + STRANGE:
            if not any(thing is other for other in right):
                self.assertIs(function(*ahead, thing), False, f"{function.__name__}: {type(thing)}")


NO_RATIOS = [
    None, True, 1, 0, 1.5, "1/2", (), (1,), (1, 2, 3), [1, 2], (2, 4), (0, 2), (0, 0), (1, 0), (1, -1), (-1, -2),
    (True, 1), (1, True), (1.0, 2), (1, 2.0), (None, 1), {1: 2}, object(), Stubborn(), (Stubborn(), 1),
]
NO_PIECES = [
    None, True, 1, "two", (), ("two",), ("two", 1), ("two", 0), ("two", 361), ("two", True), ("two", 2.0), ["two", 2],
    ("two", 2, ()), ("four", 0), ("four", 361), ("four", "1"), ("four", 1, 1), ("six", -1), ("six", None), ("eight", 1),
    ("part", 2), ("part", 1, ((1, 24),)), ("part", 61, ((1, 24),)), ("part", 2, [(1, 24)]), ("part", 2, ([1, 24],)),
    ("part", 2, {1: 24}), ("part", 2, ((1, 24), (1, 24))), ("part", 2, ((2, 24), (1, 24))), ("part", 2, ((1, 0),)),
    ("part", 2, ((1, 100),)), ("part", 2, ((1, 12),)), ("part", 2, ((1, 1), (24, 1))), ("part", 2, ((0, 24),)),
    ("part", True, ((1, 24),)), ("part", 2, ((1, True),)), ("part", 2, ((1, 24.0),)), ("part", 47, ((3, 8),)),
    ("part", 2, ((361, 24),)), ("part", 7, ((1, -1), (5, 5), (11, 24))), ("part", 59, ((7, 24),)), ("part", 2, (1, 24)),
    ("part", 2, ((1, 24),), ()), (1, 2), (None, 2), (Stubborn(), 2), ("two", Stubborn()), ("part", Stubborn(), ()),
    ("part", 2, Stubborn()), ("part", 2, (Stubborn(),)), ("part", 2, ((Stubborn(), 1),)), {"two": 2}, Stubborn(),
]
NO_TERMS = [
    None, True, 1, "one", (), (1, {}), (1, {}, (), ()), [1, {}, ()], (0, {}, ()), (True, {}, ()), (1.0, {}, ()),
    (10 ** 60 + 1, {}, ()), (-(10 ** 60) - 1, {}, ()), (None, {}, ()), (1, None, ()), (1, {0: 1}, ()), (1, {1: 0}, ()),
    (1, {1: 100}, ()), (1, {19: 1, 20: 1}, ()), (1, ((1, 1),), ()), (1, {}, None), (1, {}, []), (1, {}, {}),
    (1, {}, (("two", 1),)), (1, {}, ("four", 1)), (1, {}, (("six", 1), ("four", 1))),
    (1, {}, (("four", 2), ("four", 1))), (1, {}, (("four", 1),) * 7), (1, {7: 1}, (("four", 52),)),
    (1, {}, (("two", 19), ("two", 20))), (1, {37: 1}, (("part", 20, ((1, 24),)),)), (1, {}, (["four", 1],)),
    (Stubborn(), {}, ()), (1, Stubborn(), ()), (1, {}, Stubborn()), (1, {}, (Stubborn(),)), {}, object(), Stubborn(),
]
NO_SUMS = [
    None, True, 1, "zero", {}, (1, {}, ()), [1], [(1, {}, ()), None], [(0, {}, ())], [[1, {}, ()]], ["term"],
    [(1, {}, ())] * 41, ((1, {}, ()),) * 41, range(0), iter([]), {(1, (), ())}, object(), Stubborn(), [Stubborn()],
    [(1, {361: 1}, ())], [[]],
]


def fraction(ratio):
    """The fraction that a ratio stands for."""
    return Fraction(ratio[0], ratio[1])


def ratio(worth):
    """The ratio that stands for a fraction or a whole number."""
    return (Fraction(worth).numerator, Fraction(worth).denominator)


def divisors(n):
    return [d for d in range(1, n + 1) if n % d == 0]


def turned_in(thing):
    """The same with the keys of all dicts in another sequence."""
    if isinstance(thing, dict):
        return {key: turned_in(thing[key]) for key in reversed(list(thing))}
    if isinstance(thing, (list, tuple)):
        return type(thing)([turned_in(part) for part in thing])
    return thing


class TurnedCase(Case):
    """A test case in which, besides, the sequence of the keys of dicts that are handed in has no meaning."""

    def tell(self, function, *arguments):
        told = Case.tell(self, function, *arguments)
        self.assert_same(function(*[turned_in(argument) for argument in arguments]), told)
        return told
