"""Resultants, common multiples and common divisors."""
from idealcore.checks import check_two_polynomials, check_variable
from idealcore.coding import plain_coding
from idealcore.colons import ONE, part_inside
from idealcore.determinants import determinant
from idealcore.errors import TooMany
from idealcore.packed import packed, packed_product, recoded, unpacked
from idealcore.reducing import divided, monic, reducer_of, table_of

MOST_ROWS = 10


def resultant(ring, p, q, place):
    """The resultant of two polynomials by the variable at a place."""
    coding = check_two_polynomials(ring, p, q)
    check_variable(coding, place)
    if not p or not q:
        return ()
    (upper, above), (lower, below) = packed(coding, p), packed(coding, q)
    ahead, behind = coefficients(coding, upper, place), coefficients(coding, lower, place)
    m, n = len(ahead) - 1, len(behind) - 1
    if m + n > MOST_ROWS:
        raise TooMany(MOST_ROWS)
    # The integers of n rows are those of p times above, those of m rows those of q times below.
    under = 1
    for factor in [above] * n + [below] * m:
        under = under * factor
    rows = [(k, ahead) for k in range(n)] + [(k, behind) for k in range(m)]
    table = determinant(coding.field, sorted(rows, key=lambda row: row[0]), m + n)
    return unpacked(coding, ({code: exchanges_sign(m, n) * number for code, number in table.items()}, under))


def coefficients(coding, table, place):
    """The tables of the coefficients of the powers of a variable, from the highest power down."""
    rows = {}
    for code, number in table.items():
        exponent = coding.exponents(code)[place]
        rows.setdefault(exponent, {})[code - exponent * coding.units[place]] = number
    return [rows.get(exponent, {}) for exponent in reversed(range(max(list(rows)) + 1))]


def exchanges_sign(m, n):
    """The sign that comes from sorting n rows ahead of m rows by how far they stand to the right."""
    return -1 if len([k for k in range(n) for j in range(m) if j < k]) & 1 else 1


def multiplier(plain, p, q):
    """The reducer of the polynomial of least degree whose product with p is divisible by q: q / common divisor."""
    reducer, _, _ = reducer_of(plain.field, packed(plain, q)[0])
    return part_inside(plain, [reducer], [ONE], packed(plain, p))[0]


def with_leading_one(coding, plain, table):
    """The polynomial of a table by "degrevlex", divided by its leading number."""
    return monic(coding, reducer_of(coding.field, recoded(plain, coding, (table, 1))[0])[0])


def common_multiple(ring, p, q):
    """The least common multiple, with the leading number 1."""
    coding = check_two_polynomials(ring, p, q)
    if not p or not q:
        return ()
    plain = plain_coding(coding)
    table, _ = packed_product(plain.field, packed(plain, p), table_of(multiplier(plain, p, q)))
    return with_leading_one(coding, plain, table)


def common_divisor(ring, p, q):
    """The greatest common divisor, with the leading number 1."""
    coding = check_two_polynomials(ring, p, q)
    if not p and not q:
        return ()
    plain = plain_coding(coding)
    if not p or not q:
        table, _ = packed(plain, p + q)
    else:
        _, steps = divided(plain, (packed(plain, q)[0], 1), [multiplier(plain, p, q)])
        # The integers of a reducer have no common divisor, so those of the quotient are not divided by any.
        table = {code: number for _, code, number, _ in steps}
    return with_leading_one(coding, plain, table)
