"""What divides all coefficients of a sum ([70], [71])."""

import random
import unittest
from fractions import Fraction
from math import gcd, lcm

from etasure.alikeness import class_bound, same_class
from etasure.divisible import balance, content, first_incongruent, first_undivided, is_balance
from etasure.errors import BadLevel, BadNumber, BadPair, BadSum, NotOne
from etasure.equal import first_unlike, is_zero
from etasure.sums import sum_level, sum_times
from etasure.terms import term_start
from tests.helpers import NO_LEVELS, NO_NUMBERS, NO_RATIOS, NO_SUMS, STRANGE, Stubborn, TurnedCase, fraction, ratio
from tests.identities_at_hand import ZEROS
from tests.test_equal import LONG, WIDE, WIDER
from tests.test_relations import THREE, some_class
from tests.test_sums import JACOBI, MODULAR, slow_coefficients

CHANCE = random.Random(70)
FOUR = [(1, {}, (("four", 1),) * 3), (-1, {}, (("six", 1),) * 2)]
NO_DIVISORS = NO_NUMBERS + [0, -1, 10 ** 60 + 1]


def numbers_of(level, terms, more=0):
    return slow_coefficients(terms, fraction(class_bound(level, terms)) + more)


def some_divided(most=5):
    """A class with content that is often above 1."""
    level, terms = some_class(most)
    k = CHANCE.choice([1, 2, 6, 10 ** 20])
    return level, [(k * number, quotient, pieces) for number, quotient, pieces in terms]


class TestContent(TurnedCase):

    def test_by_hand(self):
        self.assertEqual(self.tell(content, 1, FOUR), 1728)
        self.assertEqual(self.tell(content, 4, JACOBI), 0)
        self.assertEqual(self.tell(content, 4, JACOBI[:2]), 16)
        self.assertEqual(self.tell(content, 1, [(-6, {1: 1}, ())]), 6)
        self.assertEqual(self.tell(content, 1, [(10 ** 60, {}, ()), (-1, {}, ())]), 10 ** 60 - 1)
        self.assertEqual(self.tell(content, 360, [(7, {}, (("two", 2),)), (-7, {}, (("two", 2),))]), 0)

    def test_of_many(self):
        above = 0
        for _ in range(120):
            level, terms = some_divided()
            told = self.tell(content, level, terms)
            self.assertEqual(told, gcd(*numbers_of(level, terms).values()))
            self.assertEqual(told, gcd(*numbers_of(level, terms, 30).values()))
            self.assertEqual(content(2 * level, terms), told)
            above += told > 1
        self.assertGreater(above, 60)

    def test_of_products(self):
        made = 0
        for _ in range(60):
            (level, one), (far, other) = some_class(2), some_class(2)
            one = [(2 * x, *more) for x, *more in one]
            try:
                product = sum_times(one, other)
            except BadPair:
                continue
            if not product or lcm(level, far) > 24:
                continue
            made += 1
            self.assertEqual(content(lcm(level, far), product), content(level, one) * content(far, other))
        self.assertGreater(made, 20)

    def test_errors(self):
        self.fails_in_turn(content, [4, JACOBI], [(BadLevel, NO_LEVELS), (BadSum, NO_SUMS)])
        for function in (content, balance):
            self.fails(BadLevel, function, 2, JACOBI)
            self.fails(NotOne, function, 4, [])
            self.fails(NotOne, function, 4, JACOBI + MODULAR)
            self.fails_many(3000, function, 311, WIDER)
            self.fails(NotOne, function, 311, WIDER + [(1, {}, ())])
            self.fails_many(6000, function, 360, [LONG])
        self.assertEqual(content(311, WIDE), 2)


class TestBalance(TurnedCase):

    def test_by_hand(self):
        self.assertEqual(self.tell(balance, 4, JACOBI), {})
        self.assertEqual(self.tell(balance, 1, [(-6, {1: 1}, ())]), {(1, 24): -1})
        self.assertIs(self.tell(is_balance, 1, [(-6, {1: 1}, ())], {(1, 24): -1}), True)
        self.assertIs(self.tell(is_balance, 1, [(-6, {1: 1}, ())], {(1, 24): 1}), False)
        self.assertIs(self.tell(is_balance, 1, [(-6, {1: 1}, ())], {(25, 24): 1}), True)
        self.assertIs(self.tell(is_balance, 1, [(-6, {1: 1}, ())], {(25, 24): 5, (1, 24): 4}), True)
        beside = {(25, 24): 1, (0, 1): 5, (-7, 1): 9, (1, 5): 1}
        self.assertIs(self.tell(is_balance, 1, [(-6, {1: 1}, ())], beside), True)
        self.assertIs(self.tell(is_balance, 4, JACOBI, {}), False)
        self.assertIs(self.tell(is_balance, 4, JACOBI, {(0, 1): 1}), False)

    def test_told_ones_balance(self):
        for _ in range(100):
            level, terms = some_divided(4)
            told = self.tell(balance, level, terms)
            found = numbers_of(level, terms)
            self.assertIs(not told, is_zero(level, terms))
            self.assertIs(self.tell(is_balance, level, terms, told), bool(told))
            if not told:
                continue
            self.assertEqual(list(told), sorted(told, key=fraction))
            bound = fraction(class_bound(level, terms))
            self.assertTrue(all(24 % at[1] == 0 and fraction(at) <= bound and x for at, x in told.items()))
            self.assertEqual(sum(x * found.get(fraction(at), 0) for at, x in told.items()), content(level, terms))
            self.check_bent(level, terms, told)

    def check_bent(self, level, terms, told):
        last = max(fraction(at) for at in told) + 8
        found, whole = slow_coefficients(terms, last), content(level, terms)
        for _ in range(6):
            bent = dict(told)
            at = CHANCE.choice(list(bent))
            if CHANCE.random() < 0.5:
                bent[at] = CHANCE.choice([-2, -1, 1, 2, 3]) + bent[at]
            else:
                bent[ratio(fraction(at) + CHANCE.choice([-1, Fraction(1, 24), 1, 5]))] = CHANCE.choice([-1, 1, 2])
            bent = {key: x for key, x in bent.items()}
            worth = sum(x * found.get(fraction(key), 0) for key, x in bent.items())
            right = worth > 0 and whole % worth == 0 and all(bent.values())
            self.assertIs(self.tell(is_balance, level, terms, bent), right)
        self.assertIs(is_balance(level, terms, {at: -x for at, x in told.items()}), False)
        self.assertIs(is_balance(level, terms, {at: 2 * x for at, x in told.items()}), False)

    def test_of_any_value(self):
        terms = [(5, {1: 1}, ())]
        for thing in STRANGE + [[((1, 24), 1)], (((1, 24), 1),), {(1, 24)}]:
            self.assertIs(is_balance(1, terms, thing), False)
        for x in (0, True, 1.0, "1", None, Stubborn(), (1, 1)):
            self.assertIs(is_balance(1, terms, {(1, 24): x}), False)
            self.assertIs(is_balance(1, terms, {(1, 24): 1, (49, 24): x}), False)
        self.assertIs(is_balance(1, terms, {(True, 24): 1}), False)
        for key in NO_RATIOS:
            try:
                thing = {(1, 24): 1, key: 1}
            except (TypeError, RuntimeError):
                continue
            self.assertIs(is_balance(1, terms, thing), False)

    def test_exponents_far_away(self):
        terms = [(5, {24: -1}, ())]
        self.assertIs(is_balance(24, terms, {(2999, 1): 1}), False)
        told = slow_coefficients(terms, Fraction(2999))
        self.assertGreater(told[Fraction(23)], 0)
        self.assertIs(is_balance(24, terms, {(23, 1): 1}), True)
        self.assertIs(is_balance(24, terms, {(-1, 1): 1, (2999, 1): 7}), told.get(Fraction(2999), 0) == 0)
        self.assertIs(is_balance(24, terms, {(-1, 1): 1, (2998, 1): 7}), told.get(Fraction(2998), 0) == 0)
        self.assertIs(is_balance(24, terms, {(-1, 1): 1, (3000, 1): 7}), False)
        self.assertIs(is_balance(24, terms, {(-1, 1): 1, (71989, 24): 7}), False)
        self.assertIs(is_balance(24, terms, {(-1, 1): 1, (10 ** 40, 7): 7}), False)
        self.assertIs(is_balance(24, terms, {(-1, 1): 1, (-(10 ** 40), 7): 7}), True)
        terms = [(5, {1: -1}, ())]
        self.assertIs(is_balance(1, terms, {(-1, 24): 190569293, (2399, 24): -1}), True)
        self.assertIs(is_balance(1, terms, {(-1, 24): 190569292, (2399, 24): -1}), False)
        first = balance(30, [LONG])
        self.assertIs(is_balance(30, [LONG], first), True)
        self.assertIs(is_balance(30, [LONG], {**first, (101, 1): 1}), False)
        self.assertIs(is_balance(30, [LONG], {**first, (201, 2): 1}), True)

    def test_wrong(self):
        self.fails_in_turn(balance, [4, JACOBI], [(BadLevel, NO_LEVELS), (BadSum, NO_SUMS)])
        self.fails_in_turn(is_balance, [4, JACOBI, {}], [(BadLevel, NO_LEVELS), (BadSum, NO_SUMS)])
        self.fails(BadLevel, is_balance, 2, JACOBI, None)
        self.fails(NotOne, is_balance, 4, [], None)
        self.fails(NotOne, is_balance, 4, JACOBI + MODULAR, {})
        self.fails_many(3000, is_balance, 311, WIDER, None)
        self.fails_many(6000, is_balance, 360, [LONG], {})


class TestUndivided(TurnedCase):

    def test_by_hand(self):
        self.assertIsNone(self.tell(first_undivided, 1, FOUR, 1728))
        self.assertEqual(self.tell(first_undivided, 1, FOUR, 5), (1, 1))
        self.assertEqual(self.tell(first_undivided, 1, [(1, {}, (("four", 1),))], 2), (0, 1))
        self.assertIsNone(self.tell(first_undivided, 1, [(1, {}, (("four", 1),))], 1))
        self.assertEqual(self.tell(first_undivided, 1, [(10 ** 60, {1: 1}, ())], 10 ** 60), None)
        self.assertEqual(self.tell(first_undivided, 1, [(10 ** 59, {1: 1}, ())], 10 ** 60), (1, 24))
        self.assertEqual(self.tell(first_incongruent, 1, FOUR, [], 1728), None)
        self.assertEqual(self.tell(first_incongruent, 1, FOUR, [(1, {1: 24}, ())], 1727), None)
        self.assertEqual(self.tell(first_incongruent, 1, FOUR, [(1, {1: 24}, ())], 1728), (1, 1))
        self.assertEqual(self.tell(first_incongruent, 11, [(1, {1: 2, 11: 2}, ())], [(1, {1: 2, 11: 2}, ())], 9), None)

    def test_of_many(self):
        counts = {True: 0, False: 0}
        for _ in range(120):
            level, terms = some_divided()
            u = CHANCE.choice([1, 2, 3, 5, 6, 12, 10 ** 20, 10 ** 60, content(level, terms) or 1])
            if u > 10 ** 60:
                continue
            told = self.tell(first_undivided, level, terms, u)
            counts[told is None] += 1
            found = [at for at, x in numbers_of(level, terms, 30).items() if x % u]
            self.assertEqual(told, ratio(min(found)) if found else None)
            if told is not None:
                self.assertLessEqual(fraction(told), fraction(class_bound(level, terms)))
            half = CHANCE.randint(0, len(terms))
            other = [(-number, *more) for number, *more in terms[half:]]
            self.assertEqual(self.tell(first_incongruent, level, terms[:half], other, u), told)
        self.assertGreater(min(counts.values()), 20)

    def test_great_numbers_tell_equality(self):
        for _ in range(40):
            level, terms = some_class(4)
            other = [(1, *more) for _, *more in terms]
            self.assertEqual(first_incongruent(level, terms, other, 10 ** 60), first_unlike(level, terms, other))
        for terms in ZEROS:
            level = sum_level(terms)
            if same_class(level, *terms[:2]):
                self.assertIsNone(first_undivided(level, terms, 10 ** 60))

    def test_wrong(self):
        self.fails_in_turn(first_undivided, [4, JACOBI, 5],
                           [(BadLevel, NO_LEVELS), (BadSum, NO_SUMS), (BadNumber, NO_DIVISORS)])
        self.fails_in_turn(first_incongruent, [4, JACOBI, THREE, 5],
                           [(BadLevel, NO_LEVELS), (BadSum, NO_SUMS), (BadSum, NO_SUMS), (BadNumber, NO_DIVISORS)])
        self.fails(BadLevel, first_undivided, 2, JACOBI, 0)
        self.fails(BadLevel, first_incongruent, 2, [], JACOBI, 0)
        self.fails(BadNumber, first_undivided, 4, JACOBI + MODULAR, 0)
        self.fails(BadNumber, first_undivided, 311, WIDER, 0)
        self.fails(NotOne, first_undivided, 4, [], 1)
        self.fails(NotOne, first_undivided, 4, JACOBI + MODULAR, 1)
        self.fails(NotOne, first_incongruent, 4, [], [], 5)
        self.fails(NotOne, first_incongruent, 4, JACOBI, MODULAR, 5)
        self.assertIsNone(first_incongruent(4, JACOBI, [], 5))
        self.fails_many(3000, first_undivided, 311, WIDER, 2)
        self.fails_many(3000, first_incongruent, 311, WIDER[:1], WIDER[1:], 2)
        self.assertIsNone(first_incongruent(311, WIDE[:1], WIDE[1:], 2))
        self.assertEqual(first_incongruent(311, WIDE[:1], WIDE[1:], 4), term_start(WIDE[0]))
        self.assertEqual(first_undivided(311, [(4, *WIDE[0][1:]), WIDE[1]], 4), term_start(WIDE[1]))
        self.fails_many(6000, first_undivided, 360, [LONG], 2)


if __name__ == "__main__":
    unittest.main()
