"""What holds at all exponents for sums of mixed terms ([106])."""

import random
import unittest
from fractions import Fraction

from etasure.errors import BadLevel, BadNumber, BadPeriod, BadTerm, NotOne
from etasure.identities import first_mixed, mixed_relations, sort_bound, sort_places, three_terms
from etasure.mixed import is_mixed, mixed_order, mixed_row, mixed_start, same_sort
from etasure.narrow import narrow_cusps, narrow_index
from etasure.periods import folded, period_start, refined, stretched, whole_period
from etasure.relations import relations
from tests.helpers import NO_LEVELS, NO_NUMBERS, TurnedCase, divisors, fraction, ratio
from tests.test_mixed import NO_MIXED, some_mixed
from tests.test_periods import NO_PERIODS
from tests.test_relations import in_span, pool_of, rank_of_rows

CHANCE = random.Random(106)
RAMANUJAN = [(1, {}, {1: -11, 2: -1}), (-1, {}, {1: -1, 2: -11}), (-1, {}, {}), (-11, {1: -6, 5: 6}, {})]
NO_LISTS = [None, True, 1, "zero", {}, (1, {}, {}), [1], [(1, {}, {}), None], [[1, {}, {}]], [(1, {}, {})] * 21,
            range(0), iter([]), {1: 2}, object()] + [[wrong] for wrong in NO_MIXED]
# One sort at level 31, whose bound is just 3000 above its least start; and one with a bound further away.
WIDE = [(1, {1: 80, 31: -80}, {}), (1, {1: -80, 31: 80}, {})]
WIDER = [(1, {1: 84, 31: -84}, {}), (1, {1: -84, 31: 84}, {})]


def slow_coefficients(period, terms, last):
    """The dict from fractions to coefficients up to last."""
    found = {}
    for term in terms:
        start = fraction(mixed_start(period, term))
        if start <= last:
            for n, x in enumerate(mixed_row(period, term, int(last - start))):
                found[start + n] = found.get(start + n, 0) + x
    return {at: x for at, x in sorted(found.items()) if x}


def multiplied(period, one, other):
    """The product of two mixed terms; None if it is none."""
    parts = []
    for place in (1, 2):
        told = dict(one[place])
        for key, r in other[place].items():
            told[key] = told.get(key, 0) + r
        parts.append({key: told[key] for key in sorted(told) if told[key]})
    term = (one[0] * other[0], *parts)
    return term if is_mixed(period, term) else None


def all_multiplied(period, terms, factor):
    told = [multiplied(period, term, factor) for term in terms]
    return None if None in told else told


def whole_against_etas(period):
    return [(1, {}, whole_period(period)), (-1, {1: 2, period: -2}, {})]


def some_zero():
    """A level, a period and terms whose sum is 0, made of known ones."""
    while True:
        period = CHANCE.choice([2, 3, 4, 5, 6, 7, 8, 9, 10, 12])
        kind = CHANCE.randrange(4)
        if kind == 0:
            terms = whole_against_etas(period)
        elif kind == 1 and period == 5:
            terms = RAMANUJAN
        else:
            terms = three_terms(period, *[CHANCE.randint(-20, 20) for _ in range(4)])
        if not terms:
            continue
        k = CHANCE.choice([1, 1, 2, 3])
        if k > 1 and k * period <= 20:
            # At k * tau, or with a finer period.
            if CHANCE.random() < 0.5:
                terms = [(x, {k * d: r for d, r in quotient.items()}, stretched(period, product, k))
                         for x, quotient, product in terms]
            else:
                terms = [(x, quotient, refined(period, product, k)) for x, quotient, product in terms]
            period *= k
        level = period * CHANCE.choice([1, 1, 2])
        if CHANCE.random() < 0.5:
            factor = (CHANCE.choice([1, -2, 7]), {CHANCE.choice(divisors(level)): CHANCE.choice([-2, 1, 3])},
                      {CHANCE.randint(1, period // 2): CHANCE.choice([-1, 1, 2])})
            terms = all_multiplied(period, terms, factor)
        if terms is not None and all(level % d == 0 for term in terms for d in term[1]):
            CHANCE.shuffle(terms := list(terms))
            return level, period, terms


def least_of(found):
    return ratio(min(found)) if found else None


class TestByHand(TurnedCase):

    def test_ramanujan(self):
        self.assertEqual(self.tell(sort_places, 5, 5, RAMANUJAN), [[0, 1, 2, 3]])
        self.assertIsNone(self.tell(first_mixed, 5, 5, RAMANUJAN))
        self.assertEqual(self.tell(first_mixed, 5, 5, RAMANUJAN[1:]), (0, 1))
        self.assertEqual(self.tell(mixed_relations, 5, 5, RAMANUJAN), [[1, 1, 1, 1]])
        plain = [(1, *more) for _, *more in RAMANUJAN]
        self.assertEqual(self.tell(mixed_relations, 5, 5, plain), [[1, -1, -1, -11]])
        self.assertEqual(self.tell(first_mixed, 5, 5, plain), (0, 1))
        self.assertEqual([ratio(fraction(period_start(5, product))) for _, _, product in RAMANUJAN[:3]],
                         [(0, 1), (2, 1), (0, 1)])

    def test_nothing(self):
        for level, period in ((2, 2), (60, 7), (1, 60)):
            self.assertEqual(self.tell(sort_places, level, period, []), [])
            self.assertIsNone(self.tell(first_mixed, level, period, []))
            self.assertEqual(self.tell(mixed_relations, level, period, []), [])
            self.fails(NotOne, sort_bound, level, period, [])

    def test_one_term(self):
        for _ in range(40):
            level = CHANCE.choice([2, 3, 4, 5, 6, 12, 60])
            period, term = some_mixed(level)
            self.assertEqual(self.tell(sort_places, level, period, [term]), [[0]])
            # All its zeros are at cusps, so the bound is where it begins.
            self.assertEqual(self.tell(sort_bound, level, period, [term]), mixed_start(period, term))
            self.assertEqual(self.tell(first_mixed, level, period, [term]), mixed_start(period, term))
            self.assertEqual(self.tell(mixed_relations, level, period, [term]), [])

    def test_all_periods(self):
        for period in range(2, 61):
            terms = whole_against_etas(period)
            self.assertEqual(sort_places(period, period, terms), [[0, 1]])
            self.assertIsNone(first_mixed(period, period, terms))
            self.assertEqual(first_mixed(period, period, [terms[0], (1, *terms[1][1:])]), mixed_start(period, terms[0]))
            self.assertEqual(mixed_relations(period, period, terms), [[1, 1]])

    def test_at_a_level_of_sixty(self):
        terms = [(x, {}, stretched(5, product, 12)) for x, _, product in RAMANUJAN[:3]] + [(-11, {12: -6, 60: 6}, {})]
        self.assertIsNone(self.tell(first_mixed, 60, 60, terms))
        self.assertEqual(self.tell(mixed_relations, 60, 60, terms), [[1, 1, 1, 1]])
        self.assertEqual(first_mixed(60, 60, [(2, *terms[0][1:]), *terms[1:]]), (0, 1))


class TestThreeTerms(TurnedCase):

    def test_by_hand(self):
        # E(3) * E(1) * E(2) * E(0), E(1) * E(1) * E(2) * E(2), E(3) * E(1) * E(1) * E(-1): E(0) leaves one out.
        self.assertEqual(self.tell(three_terms, 7, 2, 1, 1, 1), [])
        self.assertEqual(self.tell(three_terms, 5, 0, 0, 0, 0), [])
        self.assertEqual(self.tell(three_terms, 11, 4, 2, 1, 0),
                         [(1, {}, {1: 2, 2: 1, 5: 1}), (1, {}, {1: 1, 3: 1, 4: 2}), (-1, {}, {2: 2, 3: 1, 5: 1})])

    def by_the_sentence(self, period, a, b, c, d):
        terms = []
        for places in ((a + b, a - b, c + d, c - d), (b + c, b - c, a + d, a - d), (c + a, c - a, b + d, b - d)):
            if any(g % period == 0 for g in places):
                continue
            number, product = 1, {}
            for g in places:
                sign, h = folded(period, g)
                number *= sign
                product[h] = product.get(h, 0) + 1
            terms.append((number, {}, {h: product[h] for h in sorted(product)}))
        return terms

    def test_of_many(self):
        counts = {}
        for _ in range(300):
            period = CHANCE.choice(range(2, 61))
            reach = CHANCE.choice([5, 99, 10 ** 40])
            numbers = [CHANCE.randint(-reach, reach) for _ in range(4)]
            told = self.tell(three_terms, period, *numbers)
            self.assertEqual(told, self.by_the_sentence(period, *numbers))
            counts[len(told)] = counts.get(len(told), 0) + 1
            if period <= 30:
                last = max([fraction(mixed_start(period, term)) for term in told], default=0) + 40
                self.assertEqual(slow_coefficients(period, told, last), {})
        self.assertGreater(counts[3], 100)
        self.assertGreater(counts[2], 10)
        self.assertNotIn(1, counts)

    def test_their_sums_are_told_to_be_zero(self):
        for _ in range(120):
            period = CHANCE.choice(range(2, 61))
            level = period * CHANCE.randint(1, 60 // period)
            told = three_terms(period, *[CHANCE.randint(-99, 99) for _ in range(4)])
            self.assertIsNone(first_mixed(level, period, told))
            self.assertIn(len(sort_places(level, period, told)), (0, 1))
            if len(told) == 3:
                self.assertTrue(in_span(mixed_relations(level, period, told), [1, 1, 1]))
                bent = [(told[0][0] * 2, *told[0][1:]), *told[1:]]
                self.assertEqual(first_mixed(level, period, bent), mixed_start(period, told[0]))

    def test_wrong(self):
        self.fails_in_turn(three_terms, [5, 1, 2, 3, 4], [(BadPeriod, NO_PERIODS)] + [(BadNumber, NO_NUMBERS)] * 4)


class TestZeros(TurnedCase):

    def test_planted(self):
        for _ in range(60):
            level, period, terms = some_zero()
            self.assertIsNone(self.tell(first_mixed, level, period, terms))
            for places in sort_places(level, period, terms):
                chosen = [terms[place] for place in places]
                last = fraction(sort_bound(level, period, chosen)) + 24
                self.assertEqual(slow_coefficients(period, chosen, last), {})

    def test_together(self):
        made = 0
        while made < 25:
            level, period, terms = some_zero()
            more = three_terms(period, *[CHANCE.randint(-20, 20) for _ in range(4)])
            more = all_multiplied(period, more, (1, {1: CHANCE.choice([1, 2])}, {}))
            both = terms + more
            CHANCE.shuffle(both)
            if len(both) > 20 or not more:
                continue
            made += 1
            self.assertIsNone(self.tell(first_mixed, level, period, both))
            self.assertTrue(in_span(mixed_relations(level, period, both), [1] * len(both)))

    def test_changed(self):
        for _ in range(70):
            level, period, terms = some_zero()
            at = CHANCE.randrange(len(terms))
            x, quotient, product = terms[at]
            kind = CHANCE.randrange(3)
            if kind == 0:
                changed = [(x + CHANCE.choice([-1, 1]) * (1 if abs(x) > 1 else 2), quotient, product)]
            elif kind == 1:
                changed = []
            else:
                period_now, more = some_mixed(level, 2)
                changed = [terms[at]] + ([more] if period_now == period else [(1, {1: 1}, {}), (-1, {1: 24}, {})])
            bent = terms[:at] + changed + terms[at + 1:]
            told = self.tell(first_mixed, level, period, bent)
            last = max([fraction(mixed_start(period, term)) for term in bent], default=0) + 60
            self.assertEqual(told, least_of(slow_coefficients(period, bent, last)))

    def test_unlike_sorts_do_not_cancel_for_ever(self):
        # Three unlike weights, whose first two coefficients cancel.
        terms = [(1, {1: 24}, {}), (-1, {5: 5, 1: -1}, {}), (23, {5: 30, 1: -6}, {})]
        expected = least_of(slow_coefficients(5, terms, Fraction(30)))
        self.assertEqual(self.tell(first_mixed, 5, 5, terms), expected)
        self.assertGreater(fraction(expected), 1)
        terms = [(1, {}, {1: 1}), (-1, {}, {1: 1, 2: 60}), (1, {1: 1, 5: -1}, {2: 3})]
        self.assertEqual(first_mixed(5, 5, terms), least_of(slow_coefficients(5, terms, Fraction(5))))


class TestBounds(TurnedCase):

    def test_by_the_sentence(self):
        met = 0
        for _ in range(60):
            level, period, terms = some_zero()
            for places in self.tell(sort_places, level, period, terms):
                chosen = [terms[place] for place in places]
                bound = Fraction(sum(chosen[0][1].values()) * narrow_index(level), 24)
                for cusp, width in narrow_cusps(level)[1:]:
                    bound -= width * min(fraction(mixed_order(period, term, cusp)) for term in chosen)
                met += 1
                self.assertEqual(fraction(self.tell(sort_bound, level, period, chosen)), bound)
                for term in chosen:
                    self.assertIs(same_sort(level, period, chosen[0], term), True)
        self.assertGreater(met, 40)

    def test_sorts(self):
        for _ in range(40):
            level = CHANCE.choice([2, 3, 4, 5, 6, 8, 10])
            period, first = some_mixed(level, 3)
            terms = [first]
            for _ in range(CHANCE.randint(1, 6)):
                x, quotient, product = CHANCE.choice(terms)
                quotient = dict(quotient)
                d, e, k = CHANCE.choice(divisors(level)), CHANCE.choice(divisors(level)), CHANCE.choice([0, 1, 6, 12,
                                                                                                         24])
                quotient[d] = quotient.get(d, 0) + k
                quotient[e] = quotient.get(e, 0) - k
                terms.append((x, {d: r for d, r in quotient.items() if r}, product))
            told = self.tell(sort_places, level, period, terms)
            self.assertEqual(sorted(place for places in told for place in places), list(range(len(terms))))
            self.assertEqual([places[0] for places in told], sorted(places[0] for places in told))
            for places in told:
                self.assertEqual(places, sorted(places))
                for at, term in enumerate(terms):
                    self.assertIs(same_sort(level, period, terms[places[0]], term), at in places)
            if len(told) > 1:
                self.fails(NotOne, sort_bound, level, period, terms)

    def test_too_many(self):
        self.assertEqual(sort_bound(31, 31, WIDE), (2900, 1))
        self.assertEqual(mixed_start(31, WIDE[0]), (-100, 1))
        self.assertEqual(first_mixed(31, 31, WIDE[:1] + WIDE), (-100, 1))
        self.assertEqual(mixed_relations(31, 31, [WIDE[0], (2, *WIDE[0][1:]), WIDE[1]]), [[2, -1, 0]])
        for function in (first_mixed, mixed_relations):
            self.fails_many(3000, function, 31, 31, WIDER)
            self.fails_many(3000, function, 31, 31, [(1, {}, {1: 1}), *WIDER])
        self.assertEqual(sort_bound(31, 31, WIDER), (3045, 1))

    def test_exponents_far_away(self):
        # The first two cancel, the third one begins 3000, or more, above them.
        low = {g: -99 for g in range(1, 6)}
        high = {g: 99 for g in range(1, 6)}
        begin = fraction(mixed_start(60, (1, {}, low)))
        for distance in (3000, 3001):
            rest = begin + distance - fraction(mixed_start(60, (1, {}, high)))
            self.assertEqual((24 * rest).denominator, 1)
            quotient = self.quotient_from(int(24 * rest))
            terms = [(1, {}, low), (-1, {}, low), (5, quotient, high)]
            self.assertEqual(fraction(mixed_start(60, terms[2])) - begin, distance)
            if distance == 3000:
                self.assertEqual(first_mixed(60, 60, terms), mixed_start(60, terms[2]))
            else:
                self.fails_many(3000, first_mixed, 60, 60, terms)
                self.assertEqual(mixed_relations(60, 60, terms), [[1, 1, 0]])

    def quotient_from(self, total):
        """A quotient of level 60 in which the sum of d * r is total."""
        quotient = {}
        for d in divisors(60)[::-1]:
            r = max(-99, min(99, total // d))
            if r:
                quotient[d] = r
                total -= d * r
        self.assertEqual(total, 0)
        return quotient


class TestRelations(TurnedCase):

    def test_without_products_they_are_those_of_quotients(self):
        for level, twice in ((2, 8), (3, 12), (4, 4), (5, 8), (6, 4), (8, 4)):
            for _ in range(4):
                pool = [term for term in CHANCE.choice(pool_of(level, twice)) if not term[2]]
                if not pool:
                    continue
                chosen = [(CHANCE.choice([1, -1, 2]), CHANCE.choice(pool)[1]) for _ in range(CHANCE.randint(1, 6))]
                expected = relations(level, [(x, quotient, ()) for x, quotient in chosen])
                terms = [(x, quotient, {}) for x, quotient in chosen]
                self.assertEqual(self.tell(mixed_relations, level, level, terms), expected)
                self.assertEqual(mixed_relations(2 * level, level, terms), expected)

    def test_of_many(self):
        found = 0
        for _ in range(50):
            level, period, terms = some_zero()
            terms = [(CHANCE.choice([1, -1, 2, 5]), *more) for _, *more in terms]
            terms += [CHANCE.choice(terms)][:CHANCE.randint(0, 1)]
            told = self.tell(mixed_relations, level, period, terms)
            found += len(told)
            heads = [next(at for at, x in enumerate(row) if x) for row in told]
            self.assertEqual(heads, sorted(set(heads)))
            for row in told:
                scaled = [(x * y, *more) for x, (y, *more) in zip(row, terms) if x]
                self.assertIsNone(first_mixed(level, period, scaled))
            # They are as many as the terms less the rank of their rows, far beyond the bounds.
            last = max(fraction(mixed_start(period, term)) for term in terms) + 40
            rows = [slow_coefficients(period, [term], last) for term in terms]
            places = sorted({at for row in rows for at in row})
            rank = rank_of_rows([[row.get(at, 0) for at in places] for row in rows])
            self.assertEqual(len(told), len(terms) - rank)
        self.assertGreater(found, 50)

    def test_twenty_terms(self):
        terms = [(k + 1, *RAMANUJAN[k % 4][1:]) for k in range(20)]
        told = self.tell(mixed_relations, 5, 5, terms)
        self.assertEqual(len(told), 17)
        self.assertEqual(len(sort_places(5, 5, terms)[0]), 20)
        great = [(10 ** 60, {}, {1: -11, 2: -1}), (-(10 ** 60), {}, {1: -11, 2: -1})]
        self.assertIsNone(first_mixed(5, 5, great))

    def test_wrong(self):
        for function in (sort_places, sort_bound, first_mixed, mixed_relations):
            self.fails_in_turn(function, [5, 5, RAMANUJAN],
                               [(BadLevel, NO_LEVELS), (BadPeriod, NO_PERIODS), (BadTerm, NO_LISTS)])
            self.fails(BadTerm, function, 61, 5, [None])
            self.fails(BadLevel, function, 7, 5, RAMANUJAN)
            self.fails(BadLevel, function, 61, 5, RAMANUJAN)
            self.fails(BadLevel, function, 5, 5, [*RAMANUJAN, (1, {2: 1}, {})])
            self.fails_many(60, function, 65, 5, RAMANUJAN)
            self.fails_many(60, function, 61, 5, [])
        self.fails(NotOne, sort_bound, 5, 5, [*RAMANUJAN, (1, {1: 1}, {})])


if __name__ == "__main__":
    unittest.main()
