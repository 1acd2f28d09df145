"""Polynomials as texts."""
from idealcore.checks import MOST_DEGREE, check_polynomial, check_ring
from idealcore.errors import InvalidText, NotText
from idealcore.fields import as_fraction, is_zero_in, make_number
from idealcore.packed import sum_of_terms

NAMES = ("x", "y", "z", "w")
FIGURES = ("0", "1", "2", "3", "4", "5", "6", "7", "8", "9")
MOST_FIGURES = 60


def write(ring, p):
    """The text of a polynomial."""
    coding = check_ring(ring)
    check_polynomial(coding, p)
    return text_of(coding, p)


def text_of(coding, p):
    """The text of a polynomial, which may go beyond the bounds of what can be passed."""
    if not p:
        return "0"
    text = "".join([sign_of(coding.field, number) + term_text(coding.field, number, monomial)
                    for number, monomial in p])
    return text.removeprefix("+")


def sign_of(field, number):
    """The sign ahead of a term."""
    return "-" if as_fraction(field, number)[0] < 0 else "+"


def term_text(field, number, monomial):
    """The text of a term without its sign."""
    factors = [power_text(name, exponent) for name, exponent in zip(NAMES, monomial) if exponent > 0]
    size = number_text(field, number)
    if size != "1" or not factors:
        factors = [size] + factors
    return "*".join(factors)


def number_text(field, number):
    """The text of the absolute value of a number."""
    n, d = as_fraction(field, number)
    return f"{abs(n)}" if d == 1 else f"{abs(n)}/{d}"


def power_text(name, exponent):
    """The text of a power of a variable."""
    return name if exponent == 1 else f"{name}^{exponent}"


def read(ring, text):
    """The polynomial of a text."""
    coding = check_ring(ring)
    if not isinstance(text, str):
        raise NotText("not a string")
    return polynomial_of(coding, text)


def polynomial_of(coding, text):
    """The polynomial of a string: InvalidText."""
    return sum_of_terms(coding, Reader(coding, text).terms())


class Reader:
    """A text that is read from its beginning to its end; the place is that of the next character."""

    def __init__(self, coding, text):
        self.field = coding.field
        self.letters = NAMES[:coding.many]
        self.text = text
        self.place = 0

    def ahead(self):
        """The next character that is not a space, "" at the end of the text."""
        while self.text[self.place:self.place + 1] == " ":
            self.place += 1
        return self.text[self.place:self.place + 1]

    def passes(self, sign):
        """Whether a sign is ahead; it is passed then."""
        if self.ahead() != sign:
            return False
        self.place += 1
        return True

    def sign(self):
        """1 or -1 for the sign ahead, which is passed; 1 if there is none."""
        if self.passes("-"):
            return -1
        self.passes("+")
        return 1

    def terms(self):
        """The pairs of a number and a monomial of the whole text."""
        found = [self.term(self.sign())]
        while self.ahead() != "":
            if self.ahead() not in ("+", "-"):
                raise InvalidText(self.place)
            found.append(self.term(self.sign()))
        return found

    def term(self, sign):
        """The number and the monomial of a term."""
        n, d = sign, 1
        exponents = [0 for _ in self.letters]
        going = True
        while going:
            if self.ahead() in self.letters:
                self.power(exponents)
            else:
                upper, lower = self.quotient()
                n, d = n * upper, d * lower
            going = self.passes("*")
        return (make_number(self.field, n, d), tuple(exponents))

    def power(self, exponents):
        """Reads a power and adds its exponent to those of its term."""
        start = self.place
        index = self.letters.index(self.text[start])
        self.place += 1
        exponents[index] += self.exponent() if self.passes("^") else 1
        if sum(exponents) > MOST_DEGREE:
            raise InvalidText(start)

    def exponent(self):
        """The exponent ahead."""
        start, exponent = self.integer()
        if exponent > MOST_DEGREE:
            raise InvalidText(start)
        return exponent

    def quotient(self):
        """The number ahead, as two integers."""
        _, n = self.integer()
        if not self.passes("/"):
            return (n, 1)
        start, d = self.integer()
        if is_zero_in(self.field, d):
            raise InvalidText(start)
        return (n, d)

    def integer(self):
        """The place of the first figure of the integer ahead, and the integer."""
        self.ahead()
        start = self.place
        while self.text[self.place:self.place + 1] in FIGURES:
            self.place += 1
        figures = self.text[start:self.place]
        needless = len(figures) > 1 and figures[0] == "0"
        if figures == "" or needless or len(figures) > MOST_FIGURES:
            raise InvalidText(start)
        return (start, int(figures))
