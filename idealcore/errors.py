"""The errors of the package, each with its fields as attributes."""


class IdealError(ValueError):
    """The base class of all errors of the package."""


class BadField(IdealError):
    """A value that is not a field."""


class BadNumber(IdealError):
    """A value that is not a number of the field."""


class BadInteger(IdealError):
    """A value that is not an integer, or not one that is allowed there."""


class ZeroDivisor(IdealError):
    """A division by a number that is zero in the field."""


class BadRing(IdealError):
    """A value that is not a ring."""


class BadMonomial(IdealError):
    """A value that is not a monomial."""


class BadPolynomial(IdealError):
    """A value that is not a polynomial of the ring."""


class BadPolynomials(IdealError):
    """A value that is not a tuple of polynomials, or the index of what is none."""

    def __init__(self, index):
        super().__init__(f"index {index}")
        self.index = index


class BadTerms(IdealError):
    """A value that is not a tuple of pairs of a number and a monomial."""

    def __init__(self, index):
        super().__init__(f"index {index}")
        self.index = index


class BadPoint(IdealError):
    """A value that is not a point of the ring."""


class BadVariable(IdealError):
    """A value that is not the index of a variable."""


class OtherRing(IdealError):
    """A ring that does not go together with another one."""


class NotText(IdealError):
    """A value that is not a string."""


class InvalidText(IdealError):
    """A text that is not that of a polynomial."""

    def __init__(self, place):
        super().__init__(f"place {place}")
        self.place = place


class TooMany(IdealError):
    """More of something than is allowed."""

    def __init__(self, most):
        super().__init__(f"most {most}")
        self.most = most


class BadPlaces(IdealError):
    """A value that is not a tuple of indexes of variables."""


class BadRank(IdealError):
    """A value that is not a rank."""


class BadVector(IdealError):
    """A value that is not a vector of the rank."""


class BadVectors(IdealError):
    """A value that is not a tuple of vectors, or the index of what is none."""

    def __init__(self, index):
        super().__init__(f"index {index}")
        self.index = index


class NotBasis(IdealError):
    """Polynomials that are not a basis."""


class NotEven(IdealError):
    """A generator whose monomials have several degrees."""

    def __init__(self, index):
        super().__init__(f"index {index}")
        self.index = index


class BadValues(IdealError):
    """A value that is not a tuple of values."""


class BadGrowth(IdealError):
    """Values that grow too much."""

    def __init__(self, index):
        super().__init__(f"index {index}")
        self.index = index


class BadMonomials(IdealError):
    """A value that is not a tuple of monomials, or the index of what is none."""

    def __init__(self, index):
        super().__init__(f"index {index}")
        self.index = index


class BadSets(IdealError):
    """A value that is not a tuple of sets, or the index of what is none."""

    def __init__(self, index):
        super().__init__(f"index {index}")
        self.index = index


class BadComplex(IdealError):
    """A value that is not a complex."""


class NotFinite(IdealError):
    """A quotient ring that is not finite."""


class NotPrime(IdealError):
    """A ring over the fractions where a prime field is needed."""


class BadPoints(IdealError):
    """A value that is not a tuple of points, or the index of what is none."""

    def __init__(self, index):
        super().__init__(f"index {index}")
        self.index = index


class BadNumbers(IdealError):
    """A value that is not a tuple of numbers, or the index of what is none."""

    def __init__(self, index):
        super().__init__(f"index {index}")
        self.index = index


class BadMatrix(IdealError):
    """A value that is not a matrix."""


class BadCosts(IdealError):
    """A value that is not a tuple of costs."""


class BadMoves(IdealError):
    """A value that is not a tuple of moves, or the index of what is none."""

    def __init__(self, index):
        super().__init__(f"index {index}")
        self.index = index


class OtherTotals(IdealError):
    """Two solutions with unlike totals."""


class InvalidCommand(IdealError):
    """A line that is not a command."""

    def __init__(self, line, column):
        super().__init__(f"line {line}, column {column}")
        self.line = line
        self.column = column


class BadName(IdealError):
    """A value that is not the name of an ideal."""
