"""Which sums are 0 at all exponents, and papers of it ([63]); Hecke's relations between parts ([52], [90])."""

import random
import unittest
from fractions import Fraction
from math import lcm

from etasure.alikeness import class_bound, class_places
from etasure.equal import first_exponent, first_unlike, is_sum_paper, is_zero, sum_paper
from etasure.errors import BadLevel, BadSum
from etasure.quotients import row_of
from etasure.sums import coefficients, is_sum, sum_level
from etasure.terms import term_row, term_start
from tests.helpers import NO_LEVELS, NO_SUMS, STRANGE, TurnedCase, fraction, ratio
from tests.identities_at_hand import MULTIPLIED, ZEROS, at_multiple, has_parts, slopes, times, turned_around
from tests.test_sums import JACOBI, MODULAR, slow_coefficients
from tests.test_terms import some_term

CHANCE = random.Random(63)
PLAIN = (1, {1: 1}, ())
FAR = (("six", 1), ("six", 1), ("six", 1), ("two", 311))
# One class at level 311, with the bound 1760 and the least start -1240: just 3000 away.
WIDE = [(1, {1: 96, 311: -96}, FAR), (1, {1: -96, 311: 96}, FAR)]
WIDER = [(number, quotient, (("two", 311), *pieces)) for number, quotient, pieces in WIDE]
WIDER = [(number, quotient, tuple(sorted(pieces))) for number, quotient, pieces in WIDER]
LONG = (1, {}, (("part", 60, ((1, 24),)),))


def negative(terms):
    return [(-number, quotient, pieces) for number, quotient, pieces in terms]


def some_zero():
    """A sum that is 0, made of known ones, with a level for it."""
    while True:
        terms = []
        for _ in range(CHANCE.randint(1, 2)):
            zero = CHANCE.choice(ZEROS)
            more = times(zero, (CHANCE.choice([1, -2, 7]), {}, ()))
            for change in (CHANCE.random() < 0.6, CHANCE.random() < 0.4):
                if change and more is not None:
                    more = times(more, some_term(levels=(1, 2, 3), pieces=1, reach=3))
            if more is not None and not has_parts(more) and CHANCE.random() < 0.4:
                more = at_multiple(more, CHANCE.choice([2, 3]))
            terms.extend(more or [])
        CHANCE.shuffle(terms)
        level = sum_level(terms) if is_sum(terms) else 999
        if terms and level <= 60:
            return level * CHANCE.randint(1, min(2, 60 // level)), terms


def least_nonzero(terms, last):
    found = slow_coefficients(terms, last)
    return ratio(min(found)) if found else None


class TestByHand(TurnedCase):

    def test_examples(self):
        self.assertIsNone(self.tell(first_exponent, 4, JACOBI))
        self.assertIs(self.tell(is_zero, 4, JACOBI), True)
        self.assertIsNone(self.tell(first_exponent, 1, MODULAR))
        self.assertEqual(self.tell(sum_paper, 4, JACOBI), ((0, 1, 2),))
        self.assertEqual(self.tell(first_exponent, 4, JACOBI[:2]), (1, 1))
        self.assertEqual(self.tell(sum_paper, 4, JACOBI[:2]), (1, 1))
        self.assertEqual(self.tell(first_unlike, 4, JACOBI[:1], negative(JACOBI[1:])), None)
        self.assertEqual(self.tell(first_unlike, 4, JACOBI[:1], JACOBI), (0, 1))
        self.assertEqual(self.tell(first_unlike, 360, [], []), None)
        for level in (1, 360):
            self.assertIs(self.tell(is_zero, level, []), True)
            self.assertIsNone(self.tell(first_exponent, level, []))
            self.assertEqual(self.tell(sum_paper, level, []), ())
            self.assertIs(self.tell(is_sum_paper, level, [], ()), True)
            self.assertIs(is_sum_paper(level, [], (0, 1)), False)

    def test_one_term(self):
        self.assertEqual(self.tell(first_exponent, 1, [PLAIN]), (1, 24))
        self.assertEqual(first_exponent(360, [(10 ** 60, {360: 99}, ())]), (1485, 1))
        self.assertIs(is_zero(1, [(1, {}, ())]), False)
        # Its part begins, as what has no coefficients, behind the bound of the class.
        empty, quotient = (1, {}, (("part", 2, ((2, 12),)),)), (1, {1: 8, 2: 12, 4: -8}, ())
        self.assertEqual(class_bound(4, [quotient, empty]), (1, 2))
        self.assertIs(is_zero(4, [quotient, (-1, *quotient[1:]), empty]), True)
        self.assertEqual(first_exponent(4, [quotient, empty]), (0, 1))
        # A part of what has no such exponents.
        nothing = (1, {1: 3}, (("part", 2, ((2, 12),)),))
        self.assertIs(self.tell(is_zero, 4, [nothing]), True)
        self.assertEqual(sum_paper(4, [nothing, nothing]), ((0, 1),))
        self.assertIs(self.tell(is_sum_paper, 4, [nothing, nothing], ((1,), (0,))), True)

    def test_unlike_classes_do_not_cancel_for_ever(self):
        four, six = (1, {}, (("four", 1),)), (-1, {}, (("six", 1),))
        self.assertEqual(self.tell(first_exponent, 1, [four, six]), (1, 1))
        self.assertEqual(self.tell(first_exponent, 1, [four, (-1, {}, ()), (-240, {1: 24}, ())]), (2, 1))
        # E4, E6, E4 ** 2, E4 * E6 and 1 are of unlike weights; five of them can be made 0 up to q ** 3.
        rows = [term_row((1, {}, pieces), 6) for pieces in
                ((), (("four", 1),), (("six", 1),), (("four", 1),) * 2, (("four", 1), ("six", 1)))]
        numbers = relation_of([row[:4] for row in rows])
        terms = [(x, {}, pieces) for x, pieces in zip(numbers, ((), (("four", 1),), (("six", 1),), (("four", 1),) * 2,
                                                                (("four", 1), ("six", 1)))) if x]
        self.assertEqual(len(terms), 5)
        self.assertIs(is_zero(1, terms), False)
        self.assertEqual(first_exponent(1, terms), (4, 1))

    def test_wrong(self):
        for function in (first_exponent, is_zero, sum_paper):
            self.fails_in_turn(function, [4, JACOBI], [(BadLevel, NO_LEVELS), (BadSum, NO_SUMS)])
            self.fails(BadLevel, function, 2, JACOBI)
        self.fails_in_turn(first_unlike, [4, JACOBI, [PLAIN]],
                           [(BadLevel, NO_LEVELS), (BadSum, NO_SUMS), (BadSum, NO_SUMS)])
        for one, other in (([], JACOBI), (JACOBI, [])):
            self.fails(BadLevel, first_unlike, 2, one, other)
        self.fails(BadSum, first_unlike, 2, JACOBI, [0])
        self.fails_in_turn(is_sum_paper, [4, JACOBI, ()], [(BadLevel, NO_LEVELS), (BadSum, NO_SUMS)])
        self.fails(BadLevel, is_sum_paper, 2, JACOBI, ())


def relation_of(rows):
    """Whole numbers, not all 0, with which the rows, one more than long, come to 0."""
    table = [[Fraction(x) for x in row] + [Fraction(int(k == at)) for k in range(len(rows))]
             for at, row in enumerate(rows)]
    for column in range(len(rows[0])):
        chosen = next(row for row in table if row[column])
        table = [[x - row[column] / chosen[column] * y for x, y in zip(row, chosen)]
                 for row in table if row is not chosen]
    told = table[0][len(rows[0]):]
    common = lcm(*[x.denominator for x in told])
    return [int(x * common) for x in told]


class TestZeros(TurnedCase):

    def test_planted(self):
        for terms in ZEROS:
            level = sum_level(terms)
            self.assertIs(self.tell(is_zero, level, terms), True)
            self.assertIs(is_zero(level, terms[1:]), False)
        for _ in range(50):
            level, terms = some_zero()
            self.assertIs(self.tell(is_zero, level, terms), True)
            self.assertIsNone(self.tell(first_exponent, level, terms))
            for places in class_places(level, terms):
                chosen = [terms[place] for place in places]
                last = fraction(class_bound(level, chosen)) + 40
                self.assertEqual(coefficients(chosen, ratio(last)), {})
            half = CHANCE.randint(0, len(terms))
            self.assertIsNone(first_unlike(level, terms[:half], negative(terms[half:])))

    def test_changed(self):
        for _ in range(60):
            level, terms = some_zero()
            place = CHANCE.randrange(len(terms))
            number, quotient, pieces = terms[place]
            if number + 1 == 0 or abs(number) == 10 ** 60:
                continue
            terms[place] = (number + 1, quotient, pieces)
            extra = (1, quotient, pieces)
            start = fraction(term_start(extra))
            row = term_row(extra, 40)
            if any(row):
                first = next(n for n, x in enumerate(row) if x)
                self.assertEqual(fraction(self.tell(first_exponent, level, terms)), start + first)
                self.assertIs(is_zero(level, terms), False)
                self.assertEqual(fraction(first_unlike(level, terms[1:], negative(terms[:1]))), start + first)

    def test_first_exponents(self):
        for _ in range(60):
            terms = [some_term(levels=(1, 2, 4), pieces=1, reach=3) for _ in range(CHANCE.randint(1, 5))]
            level = sum_level(terms)
            if level > 60:
                continue
            least = min(fraction(term_start(term)) for term in terms)
            found = least_nonzero(terms, least + 30)
            if found is None:
                self.assertIs(is_zero(level, terms), all(not any(term_row(term, 99)) for term in terms))
            else:
                self.assertEqual(self.tell(first_exponent, level, terms), found)

    def test_changes_of_the_variable(self):
        changed = 0
        for terms in ZEROS:
            level = sum_level(terms)
            for given, is_whole in ((terms, True), (terms[:-1], False), (terms[1:], False)):
                others = [(1, times(given, (3, {1: 1, 2: -3}, ()))), (1, times(given, (1, {1: -2}, (("six", 1),))))]
                if not has_parts(given):
                    others += [(1, at_multiple(given, 2)), (1, at_multiple(given, 3))]
                    others += [(k, turned_around(k * level, given)) for k in (1, 2, 6)]
                    if not any(pieces for _, _, pieces in given) and len(given) > 1:
                        others.append((1, slopes(given)))
                for _, other in others:
                    self.assertIs(is_zero(lcm(level, sum_level(other)), other), is_whole)
                    changed += 1
        self.assertGreater(changed, 100)

    def test_does_not_hang_on_the_level(self):
        for terms in ZEROS:
            for k in (2, 3, 5):
                self.assertIs(is_zero(k * sum_level(terms), terms), True)
                self.assertEqual(first_exponent(k * sum_level(terms), terms[:2]),
                                 first_exponent(sum_level(terms), terms[:2]))

    def test_coefficients_that_multiply(self):
        for quotient, level, sign in MULTIPLIED:
            row = row_of(quotient, 60)
            start = sum(d * r for d, r in quotient.items()) // 24
            weight = sum(quotient.values()) // 2
            self.assertEqual(start, 1)
            for p in (2, 3, 5, 7):
                if level * p > 120:
                    continue
                chi = symbol(sign, p) if level % p else 0
                terms = [(1, {}, (("part", p, tuple(sorted(quotient.items()))),)), (-row[p - 1], quotient, ())]
                if chi:
                    terms.append((chi * p ** (weight - 1), {p * d: r for d, r in quotient.items()}, ()))
                terms = [term for term in terms if term[0]]
                level_here = sum_level(terms)
                self.assertIs(is_zero(level_here, terms), True, (quotient, p))
                # Half a weight more, and weights of which some are odd.
                for factor in ((1, {1: 1}, ()), (1, {1: -3}, (("two", 2),))):
                    more = times(terms, factor)
                    self.assertEqual(class_places(sum_level(more), more), [list(range(len(more)))])
                    self.assertIs(is_zero(sum_level(more), more), True)
                terms[0] = (2, *terms[0][1:])
                self.assertIs(is_zero(level_here, terms), not any(term_row(terms[0], 60)))

    def test_forty_terms(self):
        terms = [(k, quotient, pieces) for k in range(1, 14) for _, quotient, pieces in JACOBI]
        terms = [(JACOBI[at % 3][0] * number, quotient, pieces) for at, (number, quotient, pieces) in enumerate(terms)]
        self.assertEqual(len(terms), 39)
        self.assertIs(is_zero(4, terms), True)
        self.assertEqual(sum_paper(4, terms), (tuple(range(39)),))
        self.assertEqual(first_exponent(4, terms + [(10 ** 60, {4: 24}, ())]), (4, 1))


def symbol(sign, p):
    """The Kronecker symbol (sign / p) for an odd prime, or 2."""
    if p == 2:
        return 0 if sign % 2 == 0 else 1 if sign % 8 in (1, 7) else -1
    return 0 if sign % p == 0 else 1 if pow(sign % p, (p - 1) // 2, p) == 1 else -1


class TestBounds(TurnedCase):

    def test_just_3000_away(self):
        self.assertEqual(class_bound(311, WIDE), (1760, 1))
        zero = [WIDE[0], WIDE[1], *negative(WIDE)]
        self.assertIs(is_zero(311, zero), True)
        self.assertEqual(first_exponent(311, WIDE), (-1240, 1))
        self.assertEqual(first_exponent(311, zero + [(5, {311: 96, 1: -96}, FAR)]), (1240, 1))
        self.assertIs(is_sum_paper(311, zero, ((0, 2), (1, 3))), True)

    def test_further_away(self):
        self.assertGreater(fraction(class_bound(311, WIDER)) + 1240, 3000)
        for terms in (WIDER, WIDER + negative(WIDER), [PLAIN] + WIDER, [LONG] + WIDER):
            level = 311 if LONG not in terms else None
            if level:
                for function in (first_exponent, is_zero, sum_paper):
                    self.fails_many(3000, function, 311, terms)
                self.fails_many(3000, is_sum_paper, 311, terms, None)
                self.fails_many(3000, first_unlike, 311, terms, [])
                self.fails_many(3000, first_unlike, 311, terms[:1], negative(terms[1:]))

    def test_exponents_too_far_away(self):
        # Both are 0 but for the last term, which begins too far behind the least start.
        low, high = (1, {1: -99}, ()), (1, {351: 99, 117: 99, 39: 9}, ())
        far = [low, (-1, {1: -99}, ()), high, (1, {3: 99, 9: 99}, ())]
        self.assertEqual(first_exponent(351, far), term_start(far[3]))
        self.assertEqual(first_exponent(351, far[:3]), term_start(high))
        higher = (1, {360: 99, 180: 99, 120: 99}, ())
        lower = (1, {360: -99}, ())
        self.assertGreater(fraction(term_start(higher)) - fraction(term_start(lower)), 3000)
        terms = [lower, (-1, {360: -99}, ()), higher]
        self.assertIs(is_zero(360, terms), False)
        for function in (first_exponent, sum_paper):
            self.fails_many(3000, function, 360, terms)
        self.fails_many(3000, first_unlike, 360, terms[:1], [lower, (-1, {360: 99, 180: 99, 120: 99}, ())])
        self.assertEqual(first_exponent(360, [*terms, (1, {360: -99, 1: 1}, ())]), (-35639, 24))
        self.assertEqual(first_exponent(360, [*terms[:2], (1, {360: 99, 180: 4}, ())]), (1515, 1))
        self.fails_many(3000, first_exponent, 360, [*terms[:2], (1, {360: 99, 180: 4, 1: 1}, ())])
        self.assertIs(is_sum_paper(360, [*terms[:2], (1, {360: 99, 180: 4}, ())], (1515, 1)), True)
        self.assertIs(is_sum_paper(360, [*terms[:2], (1, {360: 99, 180: 4, 1: 1}, ())], (36361, 24)), False)
        self.assertIs(is_sum_paper(360, terms, term_start(higher)), False)

    def test_rows_of_parts_that_go_too_far(self):
        self.assertIs(is_zero(30, [LONG]), False)
        for function in (first_exponent, is_zero, sum_paper):
            self.fails_many(6000, function, 360, [LONG, (-1, {}, (("four", 1),) * 3)])
        self.fails_many(6000, is_sum_paper, 360, [LONG, (-1, {}, (("four", 1),) * 3)], ())
        # The bound of the part is near, but what is to be told begins too far away.
        nothing = [LONG, (-1, *LONG[1:])]
        near, far = (1, {30: 80}, ()), (1, {30: 81}, ())
        self.assertEqual(first_exponent(30, [*nothing, (1, {30: 79}, ())]), (395, 4))
        self.assertEqual(first_exponent(30, [*nothing, near]), (100, 1))
        self.fails_many(6000, first_exponent, 30, [*nothing, far])
        self.fails_many(6000, sum_paper, 30, [*nothing, far])
        self.assertIs(is_zero(30, [*nothing, far]), False)


class TestPapers(TurnedCase):

    def test_told_papers_are_papers(self):
        for _ in range(40):
            level, terms = some_zero()
            paper = self.tell(sum_paper, level, terms)
            self.assertIs(self.tell(is_sum_paper, level, terms, paper), True)
            self.assertEqual(sorted(place for group in paper for place in group), list(range(len(terms))))
            self.assertIs(is_sum_paper(level, terms, paper[::-1]), True)
            self.assertIs(is_sum_paper(level, terms, list(paper)), False)
            self.assertIs(is_sum_paper(level, terms, tuple(list(group) for group in paper)), False)
            self.assertIs(is_sum_paper(level, terms, paper[1:]), False)
            self.assertIs(is_sum_paper(level, terms, paper + ((),)), False)
            self.assertIs(is_sum_paper(level, terms, paper + paper[:1]), False)
            if any(len(group) > 1 for group in paper):
                self.assertIs(is_sum_paper(level, terms, tuple(group[::-1] for group in paper)), False)
            for near in ((0, 1), term_start(terms[0]), (10 ** 30, 1), (1, 7)):
                self.assertIs(is_sum_paper(level, terms, near), False)

    def test_groupings(self):
        terms = JACOBI + [(-x, *more) for x, *more in JACOBI] + MODULAR
        right = [((0, 1, 2), (3, 4, 5), (6, 7, 8)), ((0, 1, 2, 3, 4, 5), (6, 7, 8)),
                 ((6, 7, 8), (0, 3), (1, 4), (2, 5)),
                 ((0, 3), (1, 2, 4, 5), (6, 7, 8))]
        wrong = [((0, 1, 2, 3, 4, 5, 6, 7, 8),), ((0, 1), (2, 3, 4, 5), (6, 7, 8)),
                 ((0, 1, 2), (3, 4, 5), (6, 7), (8,)),
                 ((0, 1, 2), (3, 4, 5)), ((0, 2, 1), (3, 4, 5), (6, 7, 8)), ((0, 1, 2, 6, 7, 8), (3, 4, 5)),
                 ((0, 1, 2), (3, 4, 5), (6, 7, 8), ()), ((False, 1, 2), (3, 4, 5), (6, 7, 8)),
                 ((0, 1, 2), (3, 4, 5), 6),
                 ((0, 1, 2), (3, 4, 5), (6, 7, 9)), ((-9, -8, -7), (3, 4, 5), (6, 7, 8)), ((0, 1, 2), (0, 1, 2)), (),
                 ((0, 3), (0, 3), (1, 4), (2, 5), (6, 7, 8)), ((0.0, 1, 2), (3, 4, 5), (6, 7, 8)),
                 (0, 1), (1, 1), ((),)]
        for thing in right:
            self.assertIs(self.tell(is_sum_paper, 4, terms, thing), True, thing)
        for thing in wrong:
            self.assertIs(self.tell(is_sum_paper, 4, terms, thing), False, thing)
        for thing in STRANGE:
            self.assertIs(is_sum_paper(4, terms, thing), False)
            self.assertIs(is_sum_paper(4, JACOBI[:2], thing), False)

    def test_ratios(self):
        for terms in (JACOBI[:2], [PLAIN, (3, {1: 2}, ())], [(1, {2: 1}, (("four", 1),)), (-1, {2: 1}, ())]):
            level = sum_level(terms)
            found = slow_coefficients(terms, Fraction(20))
            for k in range(-30, 480):
                at = ratio(Fraction(k, 24))
                self.assertIs(is_sum_paper(level, terms, at), fraction(at) in found)
            for thing in ((1, 48), (2, 2), (1.0, 1), (True, 1), [1, 1], (-(10 ** 40), 1), (10 ** 40, 24),
                          (1, 10 ** 40)):
                self.assertIs(is_sum_paper(level, terms, thing), False)
            self.assertIs(is_sum_paper(level, terms, self.tell(sum_paper, level, terms)), True)

    def test_ratios_far_away(self):
        terms = [(1, {1: -1}, ()), (2, {24: 1}, ())]
        self.assertIs(is_sum_paper(24, terms, (71999, 24)), True)
        self.assertIs(is_sum_paper(24, terms, (72023, 24)), False)
        self.assertEqual(term_start(LONG), (1, 1))
        self.assertTrue(term_row(LONG, 99)[99])
        self.assertIs(is_sum_paper(30, [LONG], (100, 1)), True)
        self.assertIs(is_sum_paper(30, [LONG], (101, 1)), False)
        # Other terms, that have other exponents, need no part.
        self.assertIs(is_sum_paper(30, [LONG, (1, {2: 1}, ())], (2413, 12)), bool(row_of({2: 1}, 201)[201]))

    def test_only_one_kind(self):
        for _ in range(40):
            terms = [some_term(levels=(1, 2, 4), pieces=1, reach=3) for _ in range(CHANCE.randint(0, 3))]
            level = sum_level(terms)
            if level <= 60:
                paper = sum_paper(level, terms)
                self.assertIs(is_sum_paper(level, terms, paper), True)
                groups = tuple(tuple(places) for places in class_places(level, terms))
                self.assertIs(is_sum_paper(level, terms, groups), is_zero(level, terms))
                self.assertIs(paper == groups, is_zero(level, terms))


if __name__ == "__main__":
    unittest.main()
