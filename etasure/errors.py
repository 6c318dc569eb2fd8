"""The errors of the package: one class for each kind of failure."""


class SeriesError(ValueError):
    """What all errors of this package are below."""


class BadCusp(SeriesError):
    """What is given is no cusp."""


class BadFamily(SeriesError):
    """What is given is no family of partitions."""


class BadForm(SeriesError):
    """What is given is no form that fits."""


class BadLevel(SeriesError):
    """What is given is no level, or one that does not bear what stands beside it."""


class BadMatrix(SeriesError):
    """What is given is no matrix, or none of the kind that is needed."""


class BadMost(SeriesError):
    """What is given is no last place of a row."""


class BadNumber(SeriesError):
    """What is given is no number, or one out of its bounds."""


class BadOrders(SeriesError):
    """What is given is no dict of orders that fits the level."""


class BadPair(SeriesError):
    """What is given is no pair of the kind that is needed."""


class BadPartition(SeriesError):
    """What is given is no partition of the kind that is needed."""


class BadPath(SeriesError):
    """What is given is no path of the level."""


class BadPeriod(SeriesError):
    """What is given is no period."""


class BadPiece(SeriesError):
    """What is given is no piece."""


class BadPower(SeriesError):
    """What is given is no power of a prime within the bounds."""


class BadPrime(SeriesError):
    """What is given is no prime within the bounds."""


class BadProduct(SeriesError):
    """What is given is no period product."""


class BadQuotient(SeriesError):
    """What is given is no quotient of the kind that is needed."""


class BadRatio(SeriesError):
    """What is given is no ratio."""


class BadRow(SeriesError):
    """What is given is no row, or none of the kind that is needed."""


class BadStep(SeriesError):
    """What is given is no step, or no residue that fits it."""


class BadSum(SeriesError):
    """What is given is no sum of terms."""


class BadTerm(SeriesError):
    """What is given is no term."""


class BadText(SeriesError):
    """What is given is the text of nothing that is read here."""


class BadTwice(SeriesError):
    """What is given is no doubled weight within the bounds."""


class BadWeight(SeriesError):
    """What is given is no weight of the kind that is needed."""


class BadWord(SeriesError):
    """What is given is no word within the bounds."""


class NotApart(SeriesError):
    """The parts of the partition are not unlike."""


class NotCuspidal(SeriesError):
    """The sum is not cuspidal."""


class NotDivided(SeriesError):
    """The ways are not told by divisors."""


class NotFit(SeriesError):
    """The residue does not fit the quotient and the step."""


class NotOne(SeriesError):
    """There is no term, or not all terms are of one class or sort."""


class NotPaired(SeriesError):
    """The families have unlike numbers of partitions."""


class NotProduct(SeriesError):
    """The sum is not a product form."""


class NotSquare(SeriesError):
    """The product of the numbers of the form is not a square."""


class NotStraight(SeriesError):
    """The sum is not straight at the level."""


class NotUnit(SeriesError):
    """The weight of the quotient is not 0."""


class TooMany(SeriesError):
    """More would be needed than the most that is let."""

    def __init__(self, most):
        # The message leaves out the attribute, which may be a value that has no text.
        SeriesError.__init__(self, "more than the most that is let")
        self.most = most
