"""Texts ([120])."""

import random
import unittest

from etasure.errors import BadMatrix, BadQuotient, BadRatio, BadSum, BadTerm, BadText
from etasure.quotients import pairs_of
from etasure.texts import (matrix_text, quotient_text, ratio_text, read_matrix, read_quotient, read_ratio, read_sum,
                           read_term, sum_text, term_text)
from tests.helpers import NO_MATRICES, NO_QUOTIENTS, NO_RATIOS, NO_SUMS, NO_TERMS, STRANGE, TurnedCase, turned_in
from tests.test_pieces import FIVE
from tests.test_quotients import FULL, some_quotient
from tests.test_roots import great_upright, some_great
from tests.test_sums import JACOBI, some_sum
from tests.test_terms import GREAT, RIGHT, some_term

CHANCE = random.Random(120)
SIXTY_ONE = 10 ** 61 - 1
RATIOS = [((0, 1), "0"), ((5, 1), "5"), ((-5, 1), "-5"), ((1, 2), "1/2"), ((-3, 7), "-3/7"),
          ((10 ** 60, 7), "1" + "0" * 60 + "/7"), ((SIXTY_ONE, 1), "9" * 61),
          ((-SIXTY_ONE, 10 ** 60), "-" + "9" * 61 + "/1" + "0" * 60)]
QUOTIENTS = [({}, "one"), ({1: 24}, "1^24"), ({5: -1, 1: 5}, "1^5*5^-1"),
             ({360: -99, 2: 99, 10: 1}, "2^99*10^1*360^-99")]
MATRICES = [((1, 0, 0, 1), "1,0,0,1"), ((0, -1, 1, 0), "0,-1,1,0"), ((-1, 7, 0, -1), "-1,7,0,-1")]
TERMS = [
    ((1, {}, ()), "1 [one]"), ((-7, {1: 24}, ()), "-7 [1^24]"),
    ((2, {}, (("four", 1), ("two", 4))), "2 [one] four(1) two(4)"),
    ((1, {1: -5}, (FIVE,)), "1 [1^-5] part(5,1^-1*5^5)"), ((1, {2: 1}, (("part", 60, ()),)), "1 [2^1] part(60,one)"),
    ((GREAT, {360: 1}, (("six", 360),) * 2), "1" + "0" * 60 + " [360^1] six(360) six(360)"),
    ((-GREAT, {2: 3, 1: -4}, (("six", 7),)), "-1" + "0" * 60 + " [1^-4*2^3] six(7)"),
]
SUMS = [([], "zero"), (JACOBI, "1 [1^-8*2^20*4^-8] + -1 [1^8*2^-4] + -16 [2^-4*4^8]"),
        ([TERMS[1][0]] * 2, "-7 [1^24] + -7 [1^24]"), ([TERMS[2][0], TERMS[0][0]], "2 [one] four(1) two(4) + 1 [one]")]
BAD_NUMBERS = ["", "-", "+1", "01", "-0", "00", "1.0", "1e3", "1_0", " 1", "1 ", "--1", "0x1", "a", "\u0661", "\u00b2",
               "\uff11", "1\n", "1" + "0" * 61, "-1" + "0" * 61]


def figures(n):
    """The text of a number of any size."""
    if abs(n) < 10 ** 4000:
        return str(n)
    if n < 0:
        return "-" + figures(-n)
    return figures(n // 10 ** 4000) + str(n % 10 ** 4000).zfill(4000)


class TestTexts(TurnedCase):

    def test_ratios(self):
        for ratio, text in RATIOS:
            self.assertEqual(ratio_text(ratio), text)
            self.assertEqual(ratio_text(ratio=ratio), text)
            self.assertEqual(self.tell(read_ratio, text), ratio)

    def test_ratios_of_any_size(self):
        for k in (62, 64, 65, 127, 128, 129, 640, 4299, 4300, 4301, 9000, 20000):
            for n in (10 ** k, 10 ** k - 1, 10 ** k + 1, -(10 ** k) - 7):
                self.assertEqual(ratio_text((n, 1)), figures(n))
                self.fails(BadText, read_ratio, figures(n))
            self.assertEqual(ratio_text((1, 10 ** k)), "1/1" + "0" * k)
            self.assertEqual(matrix_text((1, 10 ** k, 0, 1)), "1,1" + "0" * k + ",0,1")
        for _ in range(100):
            n = CHANCE.randint(-(10 ** 300), 10 ** 300)
            self.assertEqual(ratio_text((n, 1)), str(n))
            self.assertEqual(ratio_text((2 * n + 1, 2)), f"{2 * n + 1}/2")

    def test_quotients(self):
        for quotient, text in QUOTIENTS:
            self.assertEqual(self.tell(quotient_text, quotient), text)
            told = self.tell(read_quotient, text)
            self.assertEqual(told, quotient)
            self.assertEqual(list(told), sorted(told))
        for _ in range(150):
            quotient = some_quotient(6, 99)
            text = self.tell(quotient_text, quotient)
            self.assertEqual(text, "*".join(f"{d}^{quotient[d]}" for d in sorted(quotient)) or "one")
            self.assertEqual(pairs_of(self.tell(read_quotient, text)), pairs_of(quotient))
        self.assertEqual(read_quotient(quotient_text(FULL)), FULL)

    def test_matrices(self):
        for matrix, text in MATRICES:
            self.assertEqual(matrix_text(matrix), text)
            self.assertEqual(matrix_text(matrix=matrix), text)
            self.assertEqual(self.tell(read_matrix, text), matrix)
        for _ in range(60):
            matrix = great_upright(CHANCE.choice([1, 7]))
            text = matrix_text(matrix)
            self.assertEqual(text, ",".join(str(x) for x in matrix))
            if max(abs(x) for x in matrix) <= SIXTY_ONE:
                self.assertEqual(self.tell(read_matrix, text), matrix)
            else:
                self.fails(BadText, read_matrix, text)
        self.assertEqual(read_matrix(f"1,{-SIXTY_ONE},0,1"), (1, -SIXTY_ONE, 0, 1))
        self.fails(BadText, read_matrix, f"1,{-SIXTY_ONE - 1},0,1")

    def test_terms(self):
        for term, text in TERMS:
            self.assertEqual(self.tell_named(term_text, term=term), text)
            self.assertEqual(self.tell(read_term, text), term)
        for term in RIGHT + [some_term() for _ in range(150)]:
            text = self.tell_named(term_text, term=term)
            self.assertEqual(term_text(turned_in(term)), text)
            told = self.tell(read_term, text)
            self.assertEqual(told, term)
            self.assertEqual(list(told[1]), sorted(told[1]))

    def tell_named(self, function, **arguments):
        """What the function tells, by position and by name; terms are tuples."""
        told = function(*arguments.values())
        self.assert_same(function(**arguments), told)
        return told

    def test_sums(self):
        for terms, text in SUMS:
            self.assertEqual(self.tell(sum_text, terms), text)
            self.assertEqual(self.tell(read_sum, text), terms)
        for terms in [some_sum(6) for _ in range(80)] + [[some_term() for _ in range(40)]]:
            text = self.tell(sum_text, terms)
            self.assertEqual(text, " + ".join(term_text(term) for term in terms) or "zero")
            self.assertEqual(self.tell(read_sum, text), terms)

    def test_unlike_ones_have_unlike_texts(self):
        texts = {}
        for thing in [pairs_of(some_quotient(2, 3, range(1, 12))) for _ in range(400)]:
            self.assertEqual(texts.setdefault(quotient_text(dict(thing)), thing), thing)
        terms = {}
        for _ in range(400):
            number, quotient, pieces = some_term(levels=(1, 2), pieces=1, reach=2)
            key = (number, pairs_of(quotient), pieces)
            self.assertEqual(terms.setdefault(term_text((number, quotient, pieces)), key), key)

    def test_wrong_things(self):
        for function, error, wrong in ((ratio_text, BadRatio, NO_RATIOS), (quotient_text, BadQuotient, NO_QUOTIENTS),
                                       (matrix_text, BadMatrix, NO_MATRICES), (term_text, BadTerm, NO_TERMS),
                                       (sum_text, BadSum, NO_SUMS)):
            for thing in wrong:
                self.fails(error, function, thing)


class TestTextsOfNothing(TurnedCase):

    def is_none(self, function, *texts):
        for text in texts:
            self.fails(BadText, function, text)

    def test_other_values(self):
        for function in (read_ratio, read_quotient, read_matrix, read_term, read_sum):
            for thing in STRANGE + [b"1", b"one", ["one"], ("1",), 10 ** 70, (1, 1), {}]:
                if isinstance(thing, str) and thing.isdigit() and function == read_ratio:
                    self.assertEqual(function(thing), (int(thing), 1))
                else:
                    self.fails(BadText, function, thing)

    def test_numbers(self):
        for wrong in BAD_NUMBERS:
            self.is_none(read_ratio, wrong, f"{wrong}/7", f"3/{wrong}")
            self.is_none(read_matrix, f"{wrong},0,0,1", f"1,{wrong},0,1", f"1,0,0,{wrong}")
            self.is_none(read_quotient, f"{wrong}^1", f"1^{wrong}", f"1^{wrong}*2^1", f"1^1*{wrong}^1")
            self.is_none(read_term, f"{wrong} [one]", f"1 [{wrong}^1]", f"1 [one] four({wrong})",
                         f"1 [one] part({wrong},1^24)", f"1 [one] part(5,1^{wrong})")
            self.is_none(read_sum, f"{wrong} [one]", f"1 [one] + {wrong} [one]")

    def test_ratios(self):
        self.is_none(read_ratio, "5/1", "2/4", "0/2", "1/0", "1/-2", "-1/-2", "1/2/3", "1//2", "/2", "1/", "/", "1 /2",
                     "1/ 2", "one", "1,2", "0/1", "(1, 2)", "1/2 ", "--1/2", "9" * 62, "1/" + "9" * 62)

    def test_quotients(self):
        self.is_none(read_quotient, "", "One", "one ", " one", "1", "1^", "^1", "1^1*", "*1^1", "1^1**2^1", "1^1*1^1",
                     "2^1*1^1", "1^0", "0^1", "361^1", "1^100", "1^-100", "1^1 *2^1", "1^1* 2^1", "1^1*one", "one*1^1",
                     "1^1^1", "1:1", "-1^1", "zero", "{}", "1^1*2^1*2^1", "1^+1")

    def test_matrices(self):
        self.is_none(read_matrix, "1,0,0", "1,0,0,1,0", "1,0,0,2", "(1,0,0,1)", "1, 0, 0, 1", "1;0;0;1", "", ",,,",
                     "1,0,0,1,", "-1,0,0,1", "1,0,0,1 ", "2,0,0,2", "1,-0,0,1")

    def test_terms(self):
        self.is_none(read_term, "", "1", "1 ", "1[one]", "1  [one]", " 1 [one]", "1 [one] ", "1 [one", "1 one]",
                     "1 one", "0 [one]", "1 []", "1 [1^0]", "1 [one]four(1)", "1 [one]  four(1)", "1 [one] four(0)",
                     "1 [one] four", "1 [one] four()", "1 [one] four(1", "1 [one] four 1", "1 [one] (1)",
                     "1 [one] two(1)", "1 [one] eight(1)", "1 [one] four(1,1^24)", "1 [one] part(5)",
                     "1 [one] part(5,)", "1 [one] part(5,1^-1)", "1 [one] part(1,1^24)", "1 [one] part(5,5^5*1^-1)",
                     "1 [one] part(5, 1^24)", "1 [one] two(4) four(1)", "1 [one] six(1) four(1)",
                     "1 [one] four(2) four(1)", "1 [one]" + " four(1)" * 7, "1 [19^1*20^1]", "1 [7^1] four(52)",
                     "1 [one] + 1 [one]", "zero", "1 [[one]]", "1 [one] four(1))", "1 [one] four((1)",
                     "1" + "0" * 59 + "1 [one]", "-1" + "0" * 59 + "1 [one]", "1 [2^1*1^1]", "1 [one] Four(1)",
                     "1 [one] part(5,one,one)", "1 [one]\tfour(1)", "1 [one]\n", "1 [ one]", "1 ]one[", "1 [", "1 ]",
                     "1 [one] four(360) four(7)")

    def test_sums(self):
        self.is_none(read_sum, "", "Zero", "zero ", " zero", "zero + zero", "1 [one] + zero", "1 [one]+1 [one]",
                     "1 [one] +1 [one]", "1 [one] + ", " + 1 [one]", "1 [one]  + 1 [one]", "1 [one] +  1 [one]",
                     "1 [one] - 1 [one]", "1 [one] + + 1 [one]", "one", "1", " + ".join(["1 [one]"] * 41),
                     "1 [one] + 1 [1^0]", "1 [one]\n+ 1 [one]")
        self.assertEqual(len(read_sum(" + ".join(["1 [one]"] * 40))), 40)


if __name__ == "__main__":
    unittest.main()
