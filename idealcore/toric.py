"""The ideals of lattices: all differences of two monomials with the same totals.

The sums by the first row of a matrix, whose integers are positive, are taken as degrees: all these differences have
monomials of one degree each.
"""
from idealcore.coding import Coding, rows_of
from idealcore.completion import found_basis, reduced_among, reduced_basis
from idealcore.packed import recoded
from idealcore.reducing import table_of
from idealcore.tally import generated_numbers


def dot(one, other):
    """The sum of the products."""
    return sum([a * b for a, b in zip(one, other)])


def kernel_vectors(matrix):
    """Vectors of integers whose sums are all vectors with the totals 0.

    The rows (column of the matrix, unit) are subtracted from one another until no more than one has something left
    in each place of the columns.
    """
    many = len(matrix[0])
    rows = [[line[k] for line in matrix] + [1 if k == at else 0 for at in range(many)] for k in range(many)]
    for place in range(len(matrix)):
        active = [row for row in rows if row[place]]
        rows = [row for row in rows if row[place] == 0]
        while len(active) > 1:
            pivot = min(active, key=lambda row: abs(row[place]))
            others = [less(row, pivot, row[place] // pivot[place]) for row in active if row != pivot]
            rows += [row for row in others if row[place] == 0]
            active = [pivot] + [row for row in others if row[place]]
    return [row[len(matrix):] for row in rows]


def less(row, other, times):
    """A row less a multiple of another one."""
    return [a - times * b for a, b in zip(row, other)]


def shortened(vectors):
    """Vectors with the same sums that are not made shorter by subtracting multiples of one from another."""
    found = list(vectors)
    going = True
    while going:
        going = False
        for k in range(len(found)):
            for index in range(len(found)):
                size = dot(found[index], found[index])
                times = (2 * dot(found[k], found[index]) + size) // (2 * size)
                shorter = less(found[k], found[index], times)
                if k != index and dot(shorter, shorter) < dot(found[k], found[k]):
                    found[k] = shorter
                    going = True
    return found


def difference(coding, vector):
    """The packed difference of the monomials of the positive and the negative parts of a vector."""
    ahead = coding.code([max(a, 0) for a in vector])
    behind = coding.code([max(-a, 0) for a in vector])
    return ({ahead: 1, behind: -1}, 1)


def graded_coding(field, degrees, order):
    """The coding by an order, with the degrees of the variables."""
    return Coding(field, len(degrees), rows_of(len(degrees), order), degrees)


def falling_coding(field, degrees, last):
    """The coding by degrees first; of equal degrees, what has less of the last variable is greater."""
    many = len(degrees)
    places = [place for place in range(many) if place != last] + [last]
    rows = []
    for end in reversed(range(many)):
        chosen = places[:end + 1]
        rows.append(tuple([degree if place in chosen else 0 for place, degree in enumerate(degrees)]))
    return Coding(field, many, tuple(rows), degrees)


def without_variable(coding, reducer, place):
    """The packed polynomial that is left if a variable is divided out as often as it is possible."""
    exponent = min([coding.exponents(code)[place] for code, _ in reducer])
    return ({code - exponent * coding.units[place]: n for code, n in reducer}, 1)


def lattice_reducers(field, matrix, order):
    """The reducers of the reduced basis, in an order, of the ideal of a matrix, and their coding.

    The vectors with the totals 0 tell the ideal up to products with variables.  If the last variable divides the
    leading monomial of a polynomial of one degree, it divides all of it: so variables are divided out of bases, one
    variable after another (D. Bayer).
    """
    degrees = tuple(matrix[0])
    plain = graded_coding(field, degrees, "degrevlex")
    values = [difference(plain, vector) for vector in shortened(kernel_vectors(matrix))]
    for place in range(len(degrees)):
        coding = falling_coding(field, degrees, place)
        reducers = reduced_basis(coding, [recoded(plain, coding, value) for value in values])
        values = [recoded(coding, plain, without_variable(coding, reducer, place)) for reducer in reducers]
    reducers = reduced_basis(plain, values)
    coding = graded_coding(field, degrees, order)
    if coding.rows == plain.rows:
        return (coding, reducers)
    values = [recoded(plain, coding, table_of(reducer)) for reducer in reducers]
    return (coding, reduced_among(coding, found_basis(coding, values, generated_numbers(plain, reducers)).reducers))
