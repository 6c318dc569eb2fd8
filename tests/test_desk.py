"""The desk ([121])."""

import random
import unittest
from math import lcm

from etasure.alikeness import class_places
from etasure.desk import Desk
from etasure.divisible import content
from etasure.equal import first_exponent, first_unlike, is_zero
from etasure.errors import BadText, NotFit, NotOne, TooMany
from etasure.progress import content_of, first_not
from etasure.ramanujan import spelled
from etasure.sums import sum_level
from etasure.texts import quotient_text, ratio_text, sum_text
from tests.helpers import STRANGE, TurnedCase
from tests.identities_at_hand import ZEROS
from tests.test_equal import LONG, WIDER
from tests.test_progress import some_fitting
from tests.test_relations import some_sum_of_classes
from tests.test_sums import JACOBI, MODULAR

CHANCE = random.Random(121)
WORDS = ["let", "show", "level", "zero", "first", "same", "classes", "content", "run", "not", "spell"]
NO_NAMES = ["", "A", "aB", "a1", "1", "abcdefghi", "a-b", "a_b", "\u00e4", "a.", "_", "zero1"]


def name_of(k):
    return "abcdefghijklmnopqrstuvwxyz"[k % 26] * (k // 26 + 1)


class TestSums(TurnedCase):

    def check(self, desk, *lines):
        """Each line, behind it its answer."""
        for line, answer in zip(lines[::2], lines[1::2]):
            self.assertEqual(desk.say(line), answer, line)

    def test_by_hand(self):
        self.check(Desk(), "show a", "unknown a", "let a zero", "kept", "show a", "zero", "level a", "1", "zero a",
                   "yes", "first a", "none", "classes a", "none", "content a", "mixed", "same a a", "same",
                   "let b 2 [1^24]", "kept", "show b", "2 [1^24]", "first b", "1", "content b", "2", "same a b", "1",
                   "zero b", "no", "let a -1 [1^1]", "kept", "show a", "-1 [1^1]", "first a", "1/24", "classes a", "0",
                   "content a", "1", "same b a", "1/24", "let zero zero", "kept", "zero zero", "yes", "let let 1 [one]",
                   "kept", "show let", "1 [one]")

    def test_known_sums(self):
        desk = Desk()
        self.check(desk, "let jacobi " + sum_text(JACOBI), "kept", "zero jacobi", "yes", "level jacobi", "4",
                   "classes jacobi", "0,1,2", "first jacobi", "none", "content jacobi", "0",
                   "let modular " + sum_text(MODULAR), "kept", "zero modular", "yes", "same jacobi modular", "same",
                   "let both " + sum_text(MODULAR[:2] + JACOBI[:1]), "kept", "classes both", "0,1;2", "content both",
                   "mixed", "first both", "0", "let part " + sum_text(MODULAR[:2]), "kept", "content part", "1728",
                   "first part", "1")
        for at, terms in enumerate(ZEROS):
            self.check(desk, f"let {name_of(at)} {sum_text(terms)}", "kept", f"zero {name_of(at)}", "yes",
                       f"same jacobi {name_of(at)}", "same", f"first {name_of(at)}", "none")

    def test_of_many(self):
        desk, unlike = Desk(), 0
        for _ in range(40):
            (_, one), (_, other) = some_sum_of_classes(), some_sum_of_classes()
            self.check(desk, "let x " + sum_text(one), "kept", "let y " + sum_text(other), "kept", "show x",
                       sum_text(one))
            level = sum_level(one)
            first = first_exponent(level, one)
            places = class_places(level, one)
            self.check(desk, "level x", str(level), "zero x", "yes" if is_zero(level, one) else "no",
                       "first x", "none" if first is None else ratio_text(first),
                       "classes x", ";".join(",".join(map(str, group)) for group in places) or "none")
            try:
                expected = str(content(level, one))
            except NotOne:
                expected = "mixed"
            self.check(desk, "content x", expected)
            both = lcm(level, sum_level(other))
            if both > 360:
                self.check(desk, "same x y", "wide")
                continue
            told = first_unlike(both, one, other)
            unlike += told is not None
            self.check(desk, "same x y", "same" if told is None else ratio_text(told), "same x x", "same")
        self.assertGreater(unlike, 10)

    def test_levels_that_are_too_great(self):
        desk = Desk()
        self.check(desk, "let a 1 [one] two(7) + 1 [360^1]", "kept", "level a", "2520", "zero a", "what", "first a",
                   "what", "classes a", "what", "content a", "what", "same a a", "wide", "let b 1 [11^1]", "kept",
                   "let c 1 [40^1]", "kept", "same b c", "wide", "same b b", "same", "let d 1 [36^1]", "kept",
                   "same b d", "wide", "show a", "1 [one] two(7) + 1 [360^1]", "let e 1 [9^1]", "kept", "same c e",
                   "3/8", "let f zero", "kept", "same a f", "wide")

    def test_many(self):
        desk = Desk()
        self.check(desk, "let a " + sum_text(WIDER), "kept", "zero a", "many", "first a", "many", "content a", "many",
                   "same a a", "many", "level a", "311", "classes a", "0,1", "let b " + sum_text([LONG]), "kept",
                   "zero b", "no")
        with self.assertRaises(TooMany):
            is_zero(311, WIDER)

    def test_names_and_places(self):
        desk = Desk()
        for k in range(20):
            self.check(desk, f"let {name_of(k)} {k + 1} [one]", "kept")
        self.check(desk, "let x 1 [one]", "full", "let abcdefgh zero", "full", "show x", "unknown x", "let a 7 [1^1]",
                   "kept", "show a", "7 [1^1]", "let x 0 [one]", "what", "let X zero", "what")
        for k in range(1, 20):
            self.check(desk, f"show {name_of(k)}", f"{k + 1} [one]")
        self.check(Desk(), "let a zero", "kept", "let abcdefgh 1 [one]", "kept", "show abcdefgh", "1 [one]",
                   "let abcdefghi zero", "what", "show abcdefghi", "what")

    def test_each_desk_keeps_its_own(self):
        one, other = Desk(), Desk()
        self.check(one, "let a 1 [one]", "kept")
        self.check(other, "show a", "unknown a", "let a 2 [one]", "kept")
        self.check(one, "show a", "1 [one]")
        self.assertFalse(one == other or one == "desk" or other == {})
        self.assertEqual(one.say(line="show a"), "1 [one]")

    def test_unknown(self):
        desk = Desk()
        desk.say("let a zero")
        for word in ("show", "level", "zero", "first", "classes", "content"):
            self.check(desk, f"{word} b", "unknown b", f"{word} abcdefgh", "unknown abcdefgh", f"{word} a b", "what",
                       word, "what", f"{word} ", "what", f"{word} a ", "what", f" {word} a", "what", f"{word}  a",
                       "what")
        self.check(desk, "same b a", "unknown b", "same a b", "unknown b", "same c b", "unknown c", "same a", "what",
                   "same a a a", "what", "same  a", "what", "same a B", "what", "same b B", "what", "same b 1", "what")
        for wrong in NO_NAMES:
            self.check(desk, f"show {wrong}", "what", f"same a {wrong}", "what", f"same {wrong} a", "what",
                       f"let {wrong} zero", "what")

    def test_other_lines(self):
        desk = Desk()
        for line in ["", " ", "what", "kept", "Let a zero", "LET a zero", "let", "let ", "let a", "let a ",
                     "let  a zero", "let a  zero", "let a zero ", " let a zero", "let a Zero", "let a one", "let a 1",
                     "let a 1 [one", "let a 1  [one]", "let azero", "let a 1 [one] +", "let a 01 [one]", "let a b",
                     "let a 1 [one]\n", "let\ta zero", "zero", "show", "help", "quit", "1", "run", "run 1^-1",
                     "run 1^-1 5", "run 1^-1 5 4 5", "run  1^-1 5 4", "run 1^-1 5 4 ", "runs 1^-1 5 4", "not 1^-1 5 4",
                     "not 1^-1 5 4 5 5", "spell 1^-1 5", "spell 1^-1 5 4 4", "spell", "not", "forget a", "x" * 10000]:
            self.check(desk, line, "what")
        self.check(desk, "show a", "unknown a")

    def test_wrong(self):
        desk = Desk()
        for thing in STRANGE + [b"show a", ["show a"], 5]:
            if not isinstance(thing, str):
                self.fails(BadText, desk.say, thing)
        self.assertEqual(desk.say("zero a"), "unknown a")


class TestProgressions(TurnedCase):

    def test_by_hand(self):
        desk = Desk()
        for line, answer in (
                ("run 1^-1 5 4", "5"), ("run 1^-1 7 5", "7"), ("run 1^-1 13 6", "1"), ("run 2^1 2 1", "0"),
                ("run 1^-1 5 3", "unfit"), ("not 1^-1 5 4 5", "never"), ("not 1^-1 5 4 25", "0"),
                ("not 1^-1 5 4 1", "never"), ("not 1^-1 5 3 5", "unfit"), ("spell 1^-1 5 4", "5 [1^-6*5^5]"),
                ("spell 1^-1 7 5", "49 [1^-8*7^7] + 7 [1^-4*7^3]"), ("spell 1^-1 11 6", "none"),
                ("spell 2^1 2 1", "zero"), ("spell 1^-1 5 3", "unfit"), ("run 5^98 5 0", "many"),
                ("spell 5^98 5 0", "many"), ("not 5^98 5 0 5", "many"), ("run 1^-1 59 32", "many"),
                ("spell 1^-2*2^1 12 0", "many"), ("run one 2 0", "1"), ("not 1^-1 5 4 1" + "0" * 60, "0"),
                ("not 1^24 2 1 24", "1"), ("not 1^24 2 1 8", "never")):
            self.assertEqual(desk.say(line), answer, line)

    def test_what(self):
        desk = Desk()
        for word, more in (("run", ""), ("spell", ""), ("not", " 5")):
            for line in ("1^-1 1 0", "1^-1 61 4", "1^-1 5 5", "1^-1 5 -1", "1^-1 05 4", "1^-1 5 04", "1^-1 5 +4",
                         "1^-1 x 4", "1^-1 5 x", "1^0 5 4", "x 5 4", "1^-1*1^1 5 4", "5^1*1^1 5 4", "361^1 5 4",
                         "1^-1 5/1 4", "1^-1 5 4/1", "1^-1 -5 4", "1^-1 " + "9" * 61 + " 4", "1^-1 " + "9" * 62 + " 4",
                         "1^-1 5 -0", "a 5 4"):
                self.assertEqual(desk.say(f"{word} {line}{more}"), "what", line)
        for u in ("0", "-5", "05", "x", "1" + "0" * 59 + "1", "1" + "0" * 61, "5/1", ""):
            self.assertEqual(desk.say(f"not 1^-1 5 4 {u}"), "what")
        # What is no text of a number is not listed, whatever else is wrong.
        for u in ("05", "x", "", "1" + "0" * 61):
            self.assertEqual(desk.say(f"not 1^-1 5 3 {u}"), "what")
            self.assertEqual(desk.say(f"not 5^98 5 0 {u}"), "what")
        self.assertEqual(desk.say("not 1^-1 5 3 0"), "unfit")
        self.assertEqual(desk.say("not 5^98 5 0 0"), "many")

    def test_of_many(self):
        desk, met = Desk(), set()
        for _ in range(80):
            quotient, m, t = some_fitting(levels=(1, 2, 3, 5), ms=(2, 3, 5, 7), reach=2)
            u = CHANCE.choice([1, 2, 3, 5, 24])
            if CHANCE.random() < 0.2:
                t = (t + 1) % m
            line = f"{quotient_text(quotient)} {m} {t}"
            for word, function, more in (("run", content_of, []), ("not", first_not, [u]), ("spell", spelled, [])):
                try:
                    expected = self.text_of(word, function(quotient, m, t, *more))
                except NotFit:
                    expected = "unfit"
                except TooMany:
                    expected = "many"
                met.add((word, expected if expected.isalpha() else "told"))
                self.assertEqual(desk.say(" ".join([word, line, *map(str, more)])), expected)
        self.assertGreater(len(met), 8)

    def text_of(self, word, told):
        if word == "spell":
            if told is None:
                return "none"
            return " + ".join(f"{ratio_text(ratio)} [{quotient_text(found)}]" for ratio, found in told) or "zero"
        return "never" if told is None else str(told)


class TestWords(TurnedCase):

    def test_words_are_names_too(self):
        desk = Desk()
        for word in WORDS:
            self.assertEqual(desk.say(f"let {word} 1 [1^1]"), "kept")
            self.assertEqual(desk.say(f"show {word}"), "1 [1^1]")


if __name__ == "__main__":
    unittest.main()
