"""Plain arithmetic of polynomials after the words of the document, to hold the package against.

A polynomial is a dict from monomials to numbers, which are fractions or integers modulo a prime.
"""
from fractions import Fraction
from itertools import product


def degrevlex_greater(one, other):
    if sum(one) != sum(other):
        return sum(one) > sum(other)
    for a, b in zip(reversed(one), reversed(other)):
        if a != b:
            return a < b
    return False


def lex_greater(one, other):
    for a, b in zip(one, other):
        if a != b:
            return a > b
    return False


def greater(order, one, other):
    """Whether a monomial is greater than another one, as point 3 tells."""
    if order == "lex":
        return lex_greater(one, other)
    if order == "deglex":
        return sum(one) > sum(other) if sum(one) != sum(other) else lex_greater(one, other)
    if order == "degrevlex":
        return degrevlex_greater(one, other)
    kind, told = order
    if kind == "block":
        if one[:told] != other[:told]:
            return degrevlex_greater(one[:told], other[:told])
        return degrevlex_greater(one[told:], other[told:])
    sums = [sum(w * e for w, e in zip(told, m)) for m in (one, other)]
    return sums[0] > sums[1] if sums[0] != sums[1] else degrevlex_greater(one, other)


def orders_of(many):
    """Orders of each kind for so many variables."""
    weights = ((1,) * many, (1, 5, 2, 20)[:many], (20, 1, 7, 3)[:many])
    return ["lex", "deglex", "degrevlex"] + [("block", k) for k in range(1, many)] + [("weights", w) for w in weights]


def greatest(order, monomials):
    best = None
    for monomial in monomials:
        if best is None or greater(order, monomial, best):
            best = monomial
    return best


def to_number(field, number):
    return number if field else Fraction(number[0], number[1])


def from_number(field, number):
    return number % field if field else (number.numerator, number.denominator)


def to_dict(field, p):
    return {monomial: to_number(field, number) for number, monomial in p}


def clean(field, p):
    if field:
        return {m: n % field for m, n in p.items() if n % field}
    return {m: n for m, n in p.items() if n}


def from_dict(ring, p):
    """The polynomial of the ring, by its order."""
    field, _, order = ring
    left = clean(field, p)
    terms = []
    while left:
        monomial = greatest(order, left)
        terms.append((from_number(field, left.pop(monomial)), monomial))
    return tuple(terms)


def add(field, p, q, times=1):
    total = dict(p)
    for m, n in q.items():
        total[m] = total.get(m, 0) + n * times
    return clean(field, total)


def mul(field, p, q):
    total = {}
    for (m, a), (k, b) in product(p.items(), q.items()):
        at = tuple(i + j for i, j in zip(m, k))
        total[at] = total.get(at, 0) + a * b
    return clean(field, total)


def products_sum(ring, ps, qs):
    """The sum of the products of polynomials of the ring, as one of the ring."""
    field = ring[0]
    total = {}
    for p, q in zip(ps, qs):
        total = add(field, total, mul(field, to_dict(field, p), to_dict(field, q)))
    return from_dict(ring, total)


def divides(one, other):
    return all(a <= b for a, b in zip(one, other))


def inverse(field, a):
    return pow(a, -1, field) if field else 1 / a


def divide(ring, p, divisors):
    """The division of point 8 step by step, on polynomials of the ring."""
    field, _, order = ring
    left = to_dict(field, p)
    tables = [to_dict(field, q) for q in divisors]
    heads = [greatest(order, table) for table in tables]
    cofactors = [{} for _ in divisors]
    rest = {}
    while left:
        monomial = greatest(order, left)
        for head, table, cofactor in zip(heads, tables, cofactors):
            if head is not None and divides(head, monomial):
                shift = tuple(a - b for a, b in zip(monomial, head))
                number = left[monomial] * inverse(field, table[head])
                number = number % field if field else number
                cofactor[shift] = number
                left = add(field, left, mul(field, {shift: number}, table), -1)
                break
        else:
            rest[monomial] = left.pop(monomial)
    return tuple(from_dict(ring, c) for c in cofactors), from_dict(ring, rest)


def s_polynomial(ring, p, q):
    field = ring[0]
    if not p or not q:
        return ()
    common = tuple(max(a, b) for a, b in zip(p[0][1], q[0][1]))
    halves = []
    for r in (p, q):
        shift = tuple(a - b for a, b in zip(common, r[0][1]))
        number = inverse(field, to_number(field, r[0][0]))
        halves.append(mul(field, {shift: number}, to_dict(field, r)))
    return from_dict(ring, add(field, halves[0], halves[1], -1))


def gap(ring, polys):
    """The first pair of indexes whose S-polynomial leaves a rest, with it."""
    for i in range(len(polys)):
        for j in range(i + 1, len(polys)):
            _, rest = divide(ring, s_polynomial(ring, polys[i], polys[j]), polys)
            if rest:
                return (i, j, rest)
    return None


def basis(ring, polys):
    """The reduced basis, by the simplest algorithm."""
    polys = [p for p in polys if p]
    while (found := gap(ring, polys)) is not None:
        polys.append(found[2])
    least = []
    for index, p in enumerate(polys):
        others = least + polys[index + 1:]
        if not any(divides(q[0][1], p[0][1]) for q in others):
            least.append(p)
    reduced = []
    for p in least:
        rest = divide(ring, p[1:], least)[1]
        number = inverse(ring[0], to_number(ring[0], p[0][0]))
        table = to_dict(ring[0], p[:1] + rest)
        reduced.append(from_dict(ring, {m: n * number for m, n in table.items()}))
    ordered = []
    while reduced:
        top = greatest(ring[2], [p[0][1] for p in reduced])
        ordered.insert(0, next(p for p in reduced if p[0][1] == top))
        reduced.remove(ordered[0])
    return tuple(ordered)


def evaluate(field, p, point):
    total = 0
    for number, monomial in p:
        value = to_number(field, number)
        for a, exponent in zip(point, monomial):
            value = value * to_number(field, a) ** exponent
        total = total + value
    return from_number(field, Fraction(total) if field == 0 else total)


def random_polynomial(rng, ring, degree, terms):
    """Some polynomial with at most so many terms of at most a degree."""
    field, many, _ = ring
    table = {}
    for _ in range(terms):
        monomial = [0] * many
        for _ in range(rng.randint(0, degree)):
            monomial[rng.randrange(many)] += 1
        number = rng.randint(1, field - 1) if field else Fraction(rng.randint(-5, 5), rng.choice((1, 1, 2, 3)))
        table[tuple(monomial)] = number
    return from_dict(ring, table)


def rank(field, rows):
    """The rank of a list of lists of numbers, by elimination."""
    rows = [[n % field if field else Fraction(n) for n in row] for row in rows]
    found = 0
    for column in range(len(rows[0]) if rows else 0):
        pivot = next((k for k in range(found, len(rows)) if rows[k][column]), None)
        if pivot is None:
            continue
        rows[found], rows[pivot] = rows[pivot], rows[found]
        lead = inverse(field, rows[found][column])
        for k in range(found + 1, len(rows)):
            factor = rows[k][column] * lead
            rows[k] = [a - factor * b for a, b in zip(rows[k], rows[found])]
            if field:
                rows[k] = [a % field for a in rows[k]]
        found += 1
    return found
