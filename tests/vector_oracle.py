"""Plain arithmetic of vectors after the words of the document, to hold the package against.

A vector is a dict from pairs (monomial, place) to numbers.
"""
from tests.oracle import add, clean, divides, from_dict, from_number, greater, inverse, mul, to_dict


def to_table(ring, vector):
    return {(m, place): n for place, p in enumerate(vector) for m, n in to_dict(ring[0], p).items()}


def from_table(ring, rank, table):
    places = [{} for _ in range(rank)]
    for (m, place), n in table.items():
        places[place][m] = n
    return tuple(from_dict(ring, p) for p in places)


def is_greater(ring, one, other):
    """Whether a vector term is greater than another one."""
    if one[0] != other[0]:
        return greater(ring[2], one[0], other[0])
    return one[1] < other[1]


def leading(ring, table):
    best = None
    for term in table:
        if best is None or is_greater(ring, term, best):
            best = term
    return best


def term_divides(one, other):
    return one[1] == other[1] and divides(one[0], other[0])


def less(ring, table, number, shift, other):
    """A table less a number times a monomial times another one."""
    moved = {(tuple(a + b for a, b in zip(m, shift)), place): n * number for (m, place), n in other.items()}
    return add(ring[0], table, moved, -1)


def rest(ring, table, lot):
    """What the division of a table by others leaves."""
    left, kept = dict(table), {}
    heads = [leading(ring, other) for other in lot]
    while left:
        term = leading(ring, left)
        for head, other in zip(heads, lot):
            if head is not None and term_divides(head, term):
                shift = tuple(a - b for a, b in zip(term[0], head[0]))
                left = less(ring, left, left[term] * inverse(ring[0], other[head]), shift, other)
                break
        else:
            kept[term] = left.pop(term)
    return clean(ring[0], kept)


def s_table(ring, one, other):
    """The S-vector of two tables, zero if they lead at unlike places."""
    (m, i), (k, j) = leading(ring, one), leading(ring, other)
    if i != j:
        return {}
    common = tuple(max(a, b) for a, b in zip(m, k))
    field = ring[0]
    halves = []
    for table, head in ((one, m), (other, k)):
        number = inverse(field, table[(head, i)])
        halves.append(less(ring, {}, -number, tuple(a - b for a, b in zip(common, head)), table))
    return add(field, halves[0], halves[1], -1)


def is_reduced_basis(ring, vectors):
    """Whether vectors are the reduced basis of their module, by each word of the document."""
    tables = [to_table(ring, vector) for vector in vectors]
    heads = [leading(ring, table) for table in tables]
    if None in heads:
        return False
    if not all(is_greater(ring, heads[k + 1], heads[k]) for k in range(len(heads) - 1)):
        return False
    for k, (table, head) in enumerate(zip(tables, heads)):
        if from_number(ring[0], table[head]) != (1 if ring[0] else (1, 1)):
            return False
        others = heads[:k] + heads[k + 1:]
        if any(term_divides(other, term) for other in others for term in table):
            return False
    pairs = [(one, other) for k, one in enumerate(tables) for other in tables[:k]]
    return all(rest(ring, s_table(ring, one, other), tables) == {} for one, other in pairs)


def is_in(ring, vector, basis):
    """Whether a vector is in the module of a basis."""
    return rest(ring, to_table(ring, vector), [to_table(ring, other) for other in basis]) == {}


def sum_of_products(ring, rank, factors, vectors):
    """The sum of the products of polynomials and vectors."""
    field = ring[0]
    places = [{} for _ in range(rank)]
    for p, vector in zip(factors, vectors):
        for k in range(rank):
            places[k] = add(field, places[k], mul(field, to_dict(field, p), to_dict(field, vector[k])))
    return tuple(from_dict(ring, table) for table in places)


def module_basis(ring, rank, vectors):
    """The reduced basis, by the simplest algorithm."""
    tables = [to_table(ring, vector) for vector in vectors]
    tables = [table for table in tables if table]
    pairs = [(i, j) for j in range(len(tables)) for i in range(j)]
    while pairs:
        i, j = pairs.pop(0)
        left = rest(ring, s_table(ring, tables[i], tables[j]), tables)
        if left:
            pairs += [(k, len(tables)) for k in range(len(tables))]
            tables.append(left)
    heads = [leading(ring, table) for table in tables]
    least = []
    for k, table in enumerate(tables):
        others = [leading(ring, other) for other in least] + heads[k + 1:]
        if not any(term_divides(other, heads[k]) for other in others):
            least.append(table)
    found = []
    for table in least:
        head = leading(ring, table)
        tail = rest(ring, {term: n for term, n in table.items() if term != head}, least)
        number = inverse(ring[0], table[head])
        found.append(clean(ring[0], {term: n * number for term, n in {head: table[head], **tail}.items()}))
    ordered = []
    while found:
        least_one = found[0]
        for table in found:
            if is_greater(ring, leading(ring, least_one), leading(ring, table)):
                least_one = table
        ordered.append(least_one)
        found.remove(least_one)
    return tuple(from_table(ring, rank, table) for table in ordered)
