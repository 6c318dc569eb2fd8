"""Relations modulo primes, and unlike weights ([73], [74])."""

import random
import unittest
from itertools import product

from etasure.alikeness import class_bound, class_places
from etasure.errors import BadLevel, BadNumber, BadPair, BadPower, BadPrime, BadSum, BadTerm, NotOne
from etasure.modulo import first_not_modulo, lifted, meeting, relations_modulo, unit_modulo
from etasure.quotients import row_of, start_of
from etasure.relations import sum_rank
from etasure.sums import is_sum, sum_level
from etasure.terms import is_term, term_level, term_row, term_start, term_times, term_twice
from etasure.units import unit_basis
from etasure.wholes import gaps
from tests.helpers import NO_LEVELS, NO_NUMBERS, NO_SUMS, NO_TERMS, TurnedCase, fraction, ratio
from tests.test_equal import LONG, WIDE, WIDER
from tests.test_relations import THREE, rows_of, scaled, some_class
from tests.test_sums import JACOBI, MODULAR, slow_coefficients
from tests.test_terms import RIGHT, some_term

CHANCE = random.Random(73)
PRIMES = [p for p in range(2, 98) if all(p % k for k in range(2, p))]
POWERS = {p ** k: p for p in PRIMES for k in range(1, 7) if p ** k <= 97}
NO_PRIMES = NO_NUMBERS + [0, 1, -2, 4, 6, 9, 91, 98, 99, 101, 10 ** 40]
NO_POWERS = NO_NUMBERS + [0, 1, -2, 6, 10, 12, 36, 96, 98, 99, 100, 101, 10 ** 40]
FOUR = [(1, {}, (("four", 1),)), (-1, {}, ())]


class TestRelations(TurnedCase):

    def check_form(self, told, count, p):
        heads = []
        for row in told:
            self.assertEqual(len(row), count)
            self.assertTrue(all(type(x) is int and 0 <= x < p for x in row))
            heads.append(next(at for at, x in enumerate(row) if x))
        self.assertEqual(heads, sorted(set(heads)))
        for at, head in enumerate(heads):
            self.assertEqual([row[head] for row in told], [int(k == at) for k in range(len(told))])

    def test_by_hand(self):
        forms = [(1, {}, (("four", 1),) * 3), (1, {}, (("six", 1),) * 2)]
        for p in (2, 3):
            self.assertEqual(self.tell(relations_modulo, 1, forms, p), [[1, p - 1]])
        self.assertEqual(self.tell(relations_modulo, 1, forms, 97), [])
        self.assertEqual(self.tell(relations_modulo, 4, THREE, 2), [[1, 1, 0]])
        self.assertEqual(self.tell(relations_modulo, 4, THREE, 97), [[1, 96, 81]])
        self.assertEqual(self.tell(relations_modulo, 1, [(5, {1: 1}, ()), (3, {1: 1}, ())], 5), [[1, 0]])
        self.assertEqual(self.tell(relations_modulo, 1, [(97, {1: 1}, ())] * 2, 97), [[1, 0], [0, 1]])

    def test_of_many(self):
        found = 0
        for _ in range(120):
            level, terms = some_class(6)
            p = CHANCE.choice([2, 2, 3, 3, 5, 7, 97])
            told = self.tell(relations_modulo, level, terms, p)
            found += len(told)
            self.check_form(told, len(terms), p)
            for row in told:
                sums = slow_coefficients(scaled(terms, row), fraction(class_bound(level, terms)) + 30)
                self.assertTrue(all(x % p == 0 for x in sums.values()))
            free = sum_rank(level, terms)
            divided = len([n for n in gaps(level, terms) if n % p == 0])
            self.assertEqual(len(told), len(terms) - free + divided)
        self.assertGreater(found, 100)

    def test_all_are_found(self):
        for _ in range(30):
            level, terms = some_class(4)
            p = CHANCE.choice([2, 3])
            told = relations_modulo(level, terms, p)
            rows = rows_of(level, terms)
            count = 0
            for numbers in product(range(p), repeat=len(terms)):
                count += all(sum(x * y for x, y in zip(numbers, column)) % p == 0 for column in zip(*rows))
            self.assertEqual(count, p ** len(told))

    def test_errors(self):
        self.fails_in_turn(relations_modulo, [4, JACOBI, 5],
                           [(BadLevel, NO_LEVELS), (BadSum, NO_SUMS), (BadPrime, NO_PRIMES)])
        for p in PRIMES:
            relations_modulo(1, [(1, {}, ())], p)
        self.fails(BadLevel, relations_modulo, 2, JACOBI, 4)
        self.fails(BadPrime, relations_modulo, 4, [], 4)
        self.fails(BadPrime, relations_modulo, 311, WIDER, 4)
        self.fails(NotOne, relations_modulo, 4, [], 2)
        self.fails(NotOne, relations_modulo, 4, JACOBI + MODULAR, 2)
        self.fails_many(3000, relations_modulo, 311, WIDER, 2)
        self.fails_many(6000, relations_modulo, 360, [LONG], 2)
        self.assertEqual(relations_modulo(311, WIDE, 3), [])
        self.assertEqual(relations_modulo(311, WIDE, 2), [[1, 0], [0, 1]])


class TestUnits(TurnedCase):

    def test_unit_modulo(self):
        self.assertEqual(self.tell(unit_modulo, 5), {1: 5, 5: -1})
        self.assertEqual(self.tell(unit_modulo, 25), {1: 25, 5: -5})
        self.assertEqual(self.tell(unit_modulo, 64), {1: 64, 2: -32})
        self.assertEqual(self.tell(unit_modulo, 2), {1: 2, 2: -1})
        self.assertEqual(self.tell(unit_modulo, 97), {1: 97, 97: -1})
        for u, p in POWERS.items():
            told = unit_modulo(u)
            self.assertEqual(told, {1: u, p: -(u // p)})
            self.assertEqual(start_of(told), (0, 1))
            row = row_of(told, 120)
            self.assertEqual([x % u for x in row], [1] + [0] * 120)
        self.fails_in_turn(unit_modulo, [5], [(BadPower, NO_POWERS)])

    def test_lifted_by_hand(self):
        self.assertEqual(self.tell(lifted, (1, {}, ()), 5, 2), (1, {1: 10, 5: -2}, ()))
        self.assertEqual(self.tell(lifted, (3, {5: 1}, (("two", 2),)), 5, 1), (3, {1: 5}, (("two", 2),)))
        self.assertEqual(self.tell(lifted, (3, {5: 1, 2: 1}, ()), 97, 0), (3, {2: 1, 5: 1}, ()))
        self.assertEqual(self.tell(lifted, (1, {1: -99, 97: 2}, ()), 97, 2), (1, {1: 95}, ()))
        self.assertEqual(self.tell(lifted, (1, {1: -99}, ()), 9, 20), (1, {1: 81, 3: -60}, ()))
        for term, u, j in (((1, {}, ()), 97, 2), ((1, {1: 95}, ()), 5, 1), ((1, {5: -99}, ()), 5, 1),
                           ((1, {}, (("two", 8),)), 83, 1), ((1, {7: 1, 8: 1}, ()), 11, 1)):
            self.fails(BadPair, lifted, term, u, j)
        self.assertEqual(lifted((1, {7: 1, 8: 1}, ()), 11, 0), (1, {7: 1, 8: 1}, ()))

    def test_lifted_of_many(self):
        made = 0
        for _ in range(150):
            term, u, j = some_term(pieces=1), CHANCE.choice(list(POWERS)), CHANCE.randint(0, 20)
            if CHANCE.random() < 0.7:
                u, j = CHANCE.choice([2, 3, 4, 5, 7, 8, 9]), CHANCE.randint(0, 9)
            quotient = {d: j * r for d, r in unit_modulo(u).items() if j}
            if not is_term((1, quotient, ())) or abs(u * j) > 90:
                continue
            try:
                expected = term_times(term, (1, quotient, ()))
            except BadPair:
                self.fails(BadPair, lifted, term, u, j)
                continue
            made += 1
            told = self.tell(lifted, term, u, j)
            self.assertEqual(told, expected)
            self.assertEqual(term_start(told), term_start(term))
            less = [x - y for x, y in zip(term_row(told, 40), term_row(term, 40))]
            self.assertTrue(all(x % u == 0 for x in less))
        self.assertGreater(made, 50)

    def test_wrong(self):
        self.fails_in_turn(lifted, [RIGHT[4], 5, 1],
                           [(BadTerm, NO_TERMS), (BadPower, NO_POWERS), (BadNumber, NO_NUMBERS + [-1, 21, 10 ** 40])])
        self.fails(BadNumber, lifted, (1, {1: 99}, ()), 5, 21)


def slow_meeting(level, terms, u):
    """The numbers, by trying all; None if there are none."""
    if not terms:
        return []
    many = []
    for term in terms:
        some = []
        for j in range(21):
            try:
                some.append((j, lifted(term, u, j)))
            except BadPair:
                pass
        many.append(some)
    # The weight of the one with 0 is that of all.
    for at, first in enumerate(terms):
        chosen = [[pair for pair in some if term_twice(pair[1]) == term_twice(first)] for some in many]
        if all(chosen) and not any(len(some) > 1 for some in chosen):
            lifts, others = zip(*[some[0] for some in chosen])
            if lifts[at] == 0 and len(class_places(level, list(others))) == 1:
                return list(lifts)
    return None


def some_meeting():
    """A level, terms that often meet modulo u, and u."""
    while True:
        u = CHANCE.choice([2, 3, 4, 5, 7, 8, 9, 25])
        p = POWERS[u]
        level, terms = some_class(3)
        level *= 1 if level % p == 0 else p
        changed = []
        for term in terms:
            j = CHANCE.choice([0, 0, 1, 2, 3])
            try:
                changed.append(lifted(term, u, j))
            except BadPair:
                pass
        if CHANCE.random() < 0.3 and changed:
            changed.append(some_term(levels=(1, 2), pieces=1, reach=2))
        if is_sum(changed) and level <= 40 and level % sum_level(changed) == 0:
            return level, changed, u


class TestMeeting(TurnedCase):

    def test_by_hand(self):
        self.assertEqual(self.tell(meeting, 5, FOUR, 5), [0, 2])
        self.assertIsNone(self.tell(first_not_modulo, 5, FOUR, 5))
        self.assertEqual(self.tell(meeting, 5, [], 5), [])
        self.assertEqual(self.tell(meeting, 1 * 7, [(1, {}, (("six", 1),)), (-1, {}, ())], 7), [0, 2])
        self.assertIsNone(self.tell(first_not_modulo, 7, [(1, {}, (("six", 1),)), (-1, {}, ())], 7))
        self.assertEqual(self.tell(first_not_modulo, 7, [(1, {}, (("six", 1),)), (-9, {}, ())], 7), (0, 1))
        self.assertIsNone(self.tell(meeting, 7, [(1, {}, (("six", 1),)), (-8, {}, ())], 49))
        self.assertIsNone(self.tell(meeting, 7, FOUR, 7))
        self.assertEqual(self.tell(meeting, 5, FOUR[::-1], 5), [2, 0])
        self.assertEqual(self.tell(meeting, 360, [(1, {}, ())], 5), [0])
        self.assertIsNone(self.tell(meeting, 10, [(1, {}, (("two", 2),)), (1, {1: 24}, ())], 25))

    def test_far_lifts(self):
        # 20 of them have the weight 40: from weight 40 to 0 by {1: 5, 5: -1}.
        high = (1, {1: 80}, ())
        told = meeting(5, [(1, {}, (("four", 1),) * 5), (1, {1: -40, 5: 8}, ())], 5)
        self.assertEqual(told, slow_meeting(5, [(1, {}, (("four", 1),) * 5), (1, {1: -40, 5: 8}, ())], 5))
        self.assertIsNone(meeting(5, [high, (1, {1: -4, 5: -4}, ())], 5))
        self.assertEqual(meeting(2, [(1, {1: 40, 2: -20}, ()), (1, {}, ())], 2), [0, 20])
        self.assertIsNone(meeting(2, [(1, {1: 42, 2: -21}, ()), (1, {}, ())], 2))

    def test_of_many(self):
        counts = {True: 0, False: 0}
        for _ in range(120):
            level, terms, u = some_meeting()
            told = self.tell(meeting, level, terms, u)
            self.assertEqual(told, slow_meeting(level, terms, u))
            if told is None or not terms:
                self.fails(NotOne, first_not_modulo, level, terms, u)
                continue
            self.assertEqual(min(told), 0)
            higher = [lifted(term, u, j) for term, j in zip(terms, told)]
            bound = fraction(class_bound(level, higher))
            found = [at for at, x in slow_coefficients(terms, bound + 24).items() if x % u]
            expected = ratio(min(found)) if found else None
            self.assertEqual(self.tell(first_not_modulo, level, terms, u), expected)
            counts[expected is None] += 1
            if expected is not None:
                self.assertLessEqual(fraction(expected), bound)
        self.assertGreater(counts[False], 20)

    def test_planted(self):
        for _ in range(40):
            level, terms, u = some_meeting()
            terms = terms[:3]
            if not terms:
                continue
            others = []
            for term in terms:
                try:
                    others.append(lifted((-term[0], *term[1:]), u, CHANCE.randint(1, 3)))
                except BadPair:
                    others.append((-term[0], *term[1:]))
            told = meeting(level, terms + others, u) if level % sum_level(terms + others) == 0 else None
            if told is not None:
                self.assertIsNone(first_not_modulo(level, terms + others, u))

    def test_errors(self):
        for function in (meeting, first_not_modulo):
            self.fails_in_turn(function, [20, JACOBI, 5],
                               [(BadLevel, NO_LEVELS), (BadSum, NO_SUMS), (BadPower, NO_POWERS)])
            self.fails(BadLevel, function, 2, JACOBI, 6)
            self.fails(BadPower, function, 4, JACOBI, 6)
            self.fails(BadPower, function, 4, [], 6)
            self.fails(BadLevel, function, 4, JACOBI, 5)
            self.fails(BadLevel, function, 4, [], 9)
        self.fails(NotOne, first_not_modulo, 5, [], 5)
        self.fails(NotOne, first_not_modulo, 7, FOUR, 7)
        self.assertIs(is_sum(FOUR), True)
        self.fails_many(6000, first_not_modulo, 360, [LONG], 5)
        great = [(1, {}, (("six", 1),) * 6)]
        self.assertEqual(meeting(360, great, 2), [0])
        self.assertEqual(term_level(great[0]), 1)
        self.assertEqual(first_not_modulo(360, great, 5), (0, 1))
        self.assertEqual(class_bound(360, great), (72 * 36, 1))
        distances = []
        for unit in unit_basis(360):
            far = [*great, (1, {d: 2 * r for d, r in unit.items()}, great[0][2])]
            self.assertEqual(meeting(360, far, 3), [0, 0])
            distances.append(fraction(class_bound(360, far)) - min(fraction(term_start(term)) for term in far))
            if distances[-1] > 3000:
                self.fails_many(3000, first_not_modulo, 360, far, 3)
                break
        self.assertGreater(distances[-1], 3000)


if __name__ == "__main__":
    unittest.main()
