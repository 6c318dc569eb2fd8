"""A desk that keeps sums under names, and answers lines."""

from math import lcm

from etasure.alikeness import class_places
from etasure.checks import GREATEST_LEVEL
from etasure.divisible import content
from etasure.equal import first_exponent, first_unlike, is_zero
from etasure.errors import BadText, NotFit, NotOne, SeriesError, TooMany
from etasure.progress import content_of, first_not
from etasure.ramanujan import spelled
from etasure.sums import sum_level
from etasure.texts import number_in, number_text, quotient_in, quotient_text, ratio_text, sum_in, sum_text

MOST_KEPT = 20
LONGEST_NAME = 8
LETTERS = "abcdefghijklmnopqrstuvwxyz"
NAMES_ASKED = {"show": 1, "level": 1, "zero": 1, "first": 1, "same": 2, "classes": 1, "content": 1}
NUMBERS_ASKED = {"run": 2, "not": 3, "spell": 2}
UNCLEAR = "what"


class Desk:
    """A desk."""

    def __init__(self):
        self.kept = {}

    def say(self, line):
        """The answer to a line."""
        if not isinstance(line, str):
            raise BadText("a line is a string")
        try:
            return self.answer(line)
        except TooMany:
            return "many"
        except NotOne:
            return "mixed"
        except NotFit:
            return "unfit"
        except SeriesError:
            return UNCLEAR

    def answer(self, line):
        """As say, but for errors."""
        word, _, rest = line.partition(" ")
        if word == "let":
            return self.let_be(rest)
        parts = rest.split(" ")
        if word in NUMBERS_ASKED and len(parts) == 1 + NUMBERS_ASKED[word]:
            return _progression_answer(word, quotient_in(parts[0]), [number_in(part) for part in parts[1:]])
        if word not in NAMES_ASKED or len(parts) != NAMES_ASKED[word] or not all([_is_name(part) for part in parts]):
            return UNCLEAR
        for name in parts:
            if name not in self.kept:
                return "unknown " + name
        if word == "same":
            return _same_answer(self.kept[parts[0]], self.kept[parts[1]])
        return _sum_answer(word, self.kept[parts[0]])

    def let_be(self, text):
        """Keep a sum under a name, both told by the text."""
        name, _, told = text.partition(" ")
        terms = sum_in(told)
        if not _is_name(name) or terms is None:
            return UNCLEAR
        if name not in self.kept and len(self.kept) == MOST_KEPT:
            return "full"
        self.kept[name] = terms
        return "kept"


def _is_name(text):
    """Whether it is a string of one to eight letters."""
    return 1 <= len(text) <= LONGEST_NAME and all([letter in LETTERS for letter in text])


def _sum_answer(word, terms):
    """The answer to a word about one sum."""
    level = sum_level(terms)
    if word == "show":
        return sum_text(terms)
    if word == "level":
        return number_text(level)
    if word == "zero":
        return "yes" if is_zero(level, terms) else "no"
    if word == "first":
        return _text_or(first_exponent(level, terms), "none")
    if word == "content":
        return number_text(content(level, terms))
    places = class_places(level, terms)
    return ";".join([",".join([str(place) for place in group]) for group in places]) if places else "none"


def _text_or(ratio, word):
    """The text of a ratio, or the word for None."""
    return word if ratio is None else ratio_text(ratio)


def _same_answer(one, other):
    """Whether two sums are the same, or where they are not first."""
    level = lcm(sum_level(one), sum_level(other))
    if level > GREATEST_LEVEL:
        return "wide"
    return _text_or(first_unlike(level, one, other), "same")


def _progression_answer(word, quotient, numbers):
    """The answer to a word about a progression; what no text tells is None."""
    if quotient is None or not all([number is not None for number in numbers]):
        return UNCLEAR
    if word == "run":
        return number_text(content_of(quotient, numbers[0], numbers[1]))
    if word == "not":
        place = first_not(quotient, numbers[0], numbers[1], numbers[2])
        return "never" if place is None else number_text(place)
    spelling = spelled(quotient, numbers[0], numbers[1])
    if spelling is None:
        return "none"
    if not spelling:
        return "zero"
    return " + ".join([f"{ratio_text(ratio)} [{quotient_text(found)}]" for ratio, found in spelling])
