"""Texts of ratios, quotients, matrices, terms and sums, and what has them."""

from etasure.errors import BadRatio, BadText
from etasure.matrices import check_matrix, is_matrix
from etasure.pieces import is_piece
from etasure.quotients import is_quotient, pairs_of
from etasure.ratios import is_ratio
from etasure.sums import check_sum, is_sum
from etasure.terms import check_term, is_term

MOST_FIGURES = 61
BLOCK = 64


def number_text(number):
    """The figures of the number, however many."""
    if number < 0:
        return "-" + number_text(-number)
    # Python turns no more than some thousand figures into a text at once.
    bases = [10 ** 64]
    while bases[-1] * bases[-1] <= number:
        bases.append(bases[-1] * bases[-1])
    parts = [number]
    for base in bases[::-1]:
        halves = []
        for part in parts:
            halves.extend([part // base, part % base])
        parts = halves
    text = "".join([str(part).zfill(BLOCK) for part in parts]).lstrip("0")
    return text if text else "0"


def ratio_text(ratio):
    """The text of a ratio."""
    if not is_ratio(ratio):
        raise BadRatio("a ratio is needed")
    above, below = ratio
    if below == 1:
        return number_text(above)
    return number_text(above) + "/" + number_text(below)


def quotient_text(quotient):
    """The text of a quotient."""
    return _pairs_text(pairs_of(quotient))


def _pairs_text(pairs):
    """The text of the quotient with these pairs."""
    if not pairs:
        return "one"
    return "*".join([f"{d}^{r}" for d, r in pairs])


def matrix_text(matrix):
    """The text of a matrix."""
    check_matrix(matrix)
    return ",".join([number_text(x) for x in matrix])


def _piece_text(piece):
    """The text of a piece."""
    if piece[0] == "part":
        return f"part({piece[1]},{_pairs_text(piece[2])})"
    return f"{piece[0]}({piece[1]})"


def term_text(term):
    """The text of a term."""
    check_term(term)
    return _text_of_term(term)


def _text_of_term(term):
    """As term_text, of what is known to be a term."""
    number, quotient, pieces = term
    return " ".join([number_text(number), f"[{quotient_text(quotient)}]"] + [_piece_text(piece) for piece in pieces])


def sum_text(terms):
    """The text of a sum."""
    check_sum(terms)
    if not terms:
        return "zero"
    return " + ".join([_text_of_term(term) for term in terms])


def number_in(text):
    """The number, of at most 61 figures, that has the text; None if there is none."""
    figures = text[1:] if text.startswith("-") else text
    if not 1 <= len(figures) <= MOST_FIGURES or not all([figure in "0123456789" for figure in figures]):
        return None
    number = int(text)
    return number if str(number) == text else None


def _numbers_in(text, sign):
    """The list of what number_in tells of the parts of the text between the signs."""
    return [number_in(part) for part in text.split(sign)]


def read_ratio(text):
    """The ratio that has the text."""
    _check_text(text)
    numbers = _numbers_in(text, "/")
    ratio = (numbers[0], 1) if len(numbers) == 1 else tuple(numbers)
    if not is_ratio(ratio) or ratio_text(ratio) != text:
        raise BadText("no ratio has this text")
    return ratio


def _check_text(text):
    """BadText unless it is a string."""
    if not isinstance(text, str):
        raise BadText("a text is needed")


def _known(thing):
    """What has the text; BadText for None."""
    if thing is None:
        raise BadText("nothing has this text")
    return thing


def read_quotient(text):
    """The quotient that has the text."""
    _check_text(text)
    return _known(quotient_in(text))


def quotient_in(text):
    """The quotient that has the text; None if there is none."""
    if text == "one":
        return {}
    pairs = [_numbers_in(part, "^") for part in text.split("*")]
    if not all([len(pair) == 2 for pair in pairs]):
        return None
    quotient = {d: r for d, r in pairs}
    if not is_quotient(quotient) or quotient_text(quotient) != text:
        return None
    return quotient


def read_matrix(text):
    """The matrix that has the text."""
    _check_text(text)
    matrix = tuple(_numbers_in(text, ","))
    if not is_matrix(matrix):
        raise BadText("no matrix has this text")
    return matrix


def _piece_in(text):
    """The piece that has the text; None if there is none."""
    kind, _, inner = text.partition("(")
    if not inner.endswith(")"):
        return None
    number, comma, rest = inner[:-1].partition(",")
    piece = (kind, number_in(number))
    if comma:
        quotient = quotient_in(rest)
        if quotient is None:
            return None
        piece = (kind, number_in(number), pairs_of(quotient))
    return piece if is_piece(piece) else None


def read_term(text):
    """The term that has the text."""
    _check_text(text)
    return _known(_term_in(text))


def _term_in(text):
    """The term that has the text; None if there is none."""
    parts = text.split(" ")
    if len(parts) < 2 or not parts[1].startswith("[") or not parts[1].endswith("]"):
        return None
    term = (number_in(parts[0]), quotient_in(parts[1][1:-1]), tuple([_piece_in(part) for part in parts[2:]]))
    return term if is_term(term) else None


def read_sum(text):
    """The sum that has the text."""
    _check_text(text)
    return _known(sum_in(text))


def sum_in(text):
    """The sum that has the text; None if there is none."""
    if text == "zero":
        return []
    terms = [_term_in(part) for part in text.split(" + ")]
    return terms if is_sum(terms) else None
