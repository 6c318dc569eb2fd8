"""Diagonal forms ([92])."""

import random
import unittest
from collections import Counter
from itertools import product
from math import isqrt, lcm

from etasure.errors import BadForm, BadMost
from etasure.forms import form_row, form_term, gaps_of, is_form, least_missed
from etasure.terms import is_term, term_level, term_row, term_start, term_twice
from tests.helpers import NO_MOSTS, STRANGE, Case, Stubborn

CHANCE = random.Random(92)
RIGHT = [(1,), (90,), (1, 1), (1, 90), (90,) * 12, (1,) * 12, tuple(range(1, 13)), (3, 3, 3, 5)]
NO_FORMS = [
    None, True, 1, "1", (), [1], [1, 2], (0,), (-1,), (91,), (1, 91), (2, 1), (1, 3, 2), (1,) * 13, (True,), (1, True),
    (1.0,), ("1",), (None,), ((1,),), {1: 1}, {1}, object(), Stubborn(), (Stubborn(),), (1, Stubborn()),
]
# The least n that a form misses is one of 1, 2, 3, 5, 6, 7, 10, 14, 15; the last ones miss none.
MISSED = [
    ((2,), 1), ((2, 3), 1), ((1,), 2), ((1, 3), 2), ((1, 1), 3), ((1, 2), 5), ((1, 1, 1), 7), ((1, 1, 2), 14),
    ((1, 1, 3), 6), ((1, 2, 2), 7), ((1, 2, 3), 10), ((1, 2, 4), 14), ((1, 2, 5), 10), ((1, 2, 5, 5), 15),
    ((1, 1, 1, 8), 7), ((1, 1, 3, 7), 6), ((1, 1, 1, 1), None), ((1, 2, 5, 10), None), ((1, 1, 1, 7), None),
    ((1, 2, 3, 10), None), ((1, 1, 2, 14), None), ((1, 2, 4, 14), None), ((1, 2, 5, 9), None), ((1, 1, 2, 15), 14),
    ((1, 1, 3, 6), None), ((1,) * 12, None),
]


def some_form(count=None, most=90):
    count = count or CHANCE.randint(1, 12)
    return tuple(sorted(CHANCE.randint(1, most) for _ in range(count)))


def counted(form, most):
    """The ways, by trying all."""
    worths = [[a * x * x for x in range(-isqrt(most // a), isqrt(most // a) + 1)] for a in form]
    found = Counter(sum(chosen) for chosen in product(*worths))
    return [found.get(n, 0) for n in range(most + 1)]


class TestForms(Case):

    def test_is_form(self):
        self.judges(is_form, RIGHT, NO_FORMS)
        self.assertIs(is_form(thing=(1, 2)), True)

    def test_ways_by_hand(self):
        self.assertEqual(form_row((1, 1), 5), [1, 4, 4, 0, 4, 8])
        self.assertEqual(form_row((1, 1, 1, 1), 4), [1, 8, 24, 32, 24])
        self.assertEqual(form_row((90,), 0), [1])
        self.assertEqual(form_row((1,) * 12, 1), [1, 24])

    def test_ways_by_counting(self):
        for count, most, greatest in ((1, 3000, 90), (2, 400, 90), (3, 100, 30), (4, 40, 12), (5, 20, 9), (8, 8, 5),
                                      (12, 3, 3)):
            for _ in range(6):
                form = some_form(count, greatest)
                self.assertEqual(self.named(form_row, form, most), counted(form, most))
        # With more numbers, the ways are those of both parts put together.
        for _ in range(10):
            form = some_form()
            head, tail = form_row(form[:1], 200), form_row(form[1:], 200) if form[1:] else [1] + [0] * 200
            self.assertEqual(form_row(form, 200),
                             [sum(head[k] * tail[n - k] for k in range(n + 1)) for n in range(201)])
        self.assertEqual(len(form_row((1, 2, 90), 3000)), 3001)

    def named(self, function, *arguments):
        """What the function tells, by position and by name; forms must be tuples, so no others are tried."""
        told = function(*arguments)
        names = ("form", "most")[:len(arguments)]
        self.assert_same(function(**dict(reversed(list(zip(names, arguments))))), told)
        return told

    def test_term(self):
        self.assertEqual(self.named(form_term, (1,)), (1, {1: -2, 2: 5, 4: -2}, ()))
        self.assertEqual(self.named(form_term, (1, 2)), (1, {1: -2, 2: 3, 4: 3, 8: -2}, ()))
        self.assertEqual(self.named(form_term, (90,)), (1, {90: -2, 180: 5, 360: -2}, ()))
        whole = 0
        for _ in range(150):
            form = some_form(most=CHANCE.choice([1, 2, 4, 6, 10, 90]))
            level = lcm(*[4 * a for a in form])
            if level > 360:
                self.fails_many(360, form_term, form)
                continue
            whole += 1
            term = self.named(form_term, form)
            self.assertTrue(is_term(term))
            self.assertEqual((term[0], term[2]), (1, ()))
            self.assertEqual(list(term[1]), sorted(term[1]))
            self.assertEqual((term_level(term), term_start(term), term_twice(term)), (level, (0, 1), len(form)))
            self.assertEqual(term_row(term, 60), form_row(form, 60))
        self.assertGreater(whole, 40)
        self.assertEqual(form_term((90,) * 12)[1], {90: -24, 180: 60, 360: -24})
        self.fails_many(360, form_term, (7, 90))

    def test_least_missed(self):
        for form, expected in MISSED:
            self.assertEqual(self.named(least_missed, form), expected)
        told = set()
        for _ in range(400):
            form = some_form(CHANCE.randint(1, 5), CHANCE.choice([2, 5, 9]))
            row = form_row(form, 200)
            missed = [n for n in range(1, 201) if not row[n]]
            told.add(least_missed(form))
            self.assertEqual(least_missed(form), missed[0] if missed else None)
        self.assertTrue({None, 1, 2, 3, 5, 6, 7} <= told)

    def test_gaps(self):
        self.assertEqual(self.named(gaps_of, (1, 1), 12), [3, 6, 7, 11, 12])
        self.assertEqual(self.named(gaps_of, (1, 2, 5, 5), 3000), [15])
        self.assertEqual(self.named(gaps_of, (1, 1, 1, 1), 3000), [])
        self.assertEqual(self.named(gaps_of, (1,), 0), [])
        # Sums of three squares miss just the numbers 4 ** a * (8 * b + 7).
        expected = sorted(4 ** a * (8 * b + 7) for a in range(6) for b in range(400) if 4 ** a * (8 * b + 7) <= 3000)
        self.assertEqual(self.named(gaps_of, (1, 1, 1), 3000), expected)
        for _ in range(20):
            form, most = some_form(CHANCE.randint(1, 4)), CHANCE.randint(0, 300)
            self.assertEqual(gaps_of(form, most), [n for n, ways in enumerate(form_row(form, most)) if not ways])

    def test_wrong(self):
        wrong = NO_FORMS + [thing for thing in STRANGE if not isinstance(thing, Stubborn)]
        for function in (form_row, gaps_of):
            self.fails_in_turn(function, [(1, 1), 3], [(BadForm, wrong), (BadMost, NO_MOSTS)])
        for function in (form_term, least_missed):
            self.fails_in_turn(function, [(1, 1)], [(BadForm, wrong)])


if __name__ == "__main__":
    unittest.main()
