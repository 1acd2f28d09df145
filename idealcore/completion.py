"""The computation of bases: B. Buchberger's algorithm.

Pairs are left out as R. Gebauer and H. M. Moeller tell.  The generators are made to have monomials of one degree
by one more variable, and pairs are taken by ascending degrees: without this, polynomials of very many terms come up
in orders like "lex".  If 1 is put in the place of the additional variable, a basis remains.
"""
from heapq import heapify, heappop, heappush

from idealcore.coding import Lift
from idealcore.packed import lowest
from idealcore.reducing import divided, reducer_of, reducers_of, rest_table, s_value
from idealcore.tally import Tally


class Pile:
    """Reducers that grow in number, with the pairs whose S-polynomials must be looked at.

    A pair is a triple (code of the least common multiple, index, index).  The reducers at the indexes alive are
    those whose leading monomial is not divided by that of a later one.
    """

    def __init__(self, coding):
        self.coding = coding
        self.reducers = []
        self.alive = []
        self.pairs = []

    def head(self, index):
        """The code of the leading monomial of a reducer."""
        return self.reducers[index][0][0]

    def living(self):
        """The reducers that are alive."""
        return [self.reducers[index] for index in self.alive]

    def mates(self, head):
        """The leading monomials, at the same place as a monomial, of the reducers that are alive."""
        heads = [self.head(index) for index in self.alive]
        return [other for other in heads if not self.coding.is_apart(head, other)]

    def put(self, reducer):
        """Appends a reducer and brings the pairs up to date."""
        head = reducer[0][0]
        new = len(self.reducers)
        self.reducers.append(reducer)
        pairs = [pair for pair in self.pairs if not self.is_needless(pair, head)]
        self.pairs = pairs + self.new_pairs(new)
        heapify(self.pairs)
        self.alive = [index for index in self.alive if not self.coding.divides(head, self.head(index))] + [new]

    def is_needless(self, pair, head):
        """Whether a pair follows from the two that its reducers make with a new one."""
        common, one, other = pair
        if one < 0 or not self.coding.divides(head, common):
            return False
        return self.coding.lcm(head, self.head(one)) != common and self.coding.lcm(head, self.head(other)) != common

    def new_pairs(self, new):
        """The pairs of a new reducer that do not follow from others."""
        head = self.head(new)
        near = [index for index in self.alive if not self.coding.is_apart(head, self.head(index))]
        commons = [(self.coding.lcm(head, self.head(index)), index) for index in near]
        # Where common multiples are equal, one that is the product comes first: it makes the others needless.
        ranked = sorted([(common, common != head + self.head(index), index) for common, index in commons])
        kept = []
        pairs = []
        for common, is_less, index in ranked:
            if not any([self.coding.divides(earlier, common) for earlier in kept]):
                kept.append(common)
                if is_less:
                    pairs.append((common, index, new))
        return pairs


class Completion:
    """The computation of a basis of generators, which are packed polynomials.

    Sources are counted through: first the generators, then the reducers, in the order in which they are found.
    The history of a reducer tells it as the sum of n / d times a monomial times an earlier source, for quadruples
    (source, code, n, d), the additional variable being left out.  If it is told how many monomials of each degree
    the leading monomials divide, with the additional variable, pairs that leave nothing are not looked at.
    """

    def __init__(self, coding, generators, wanted=None):
        self.lift = Lift(coding)
        self.high = self.lift.high
        self.generators = [self.lift.lifted(value) for value in generators]
        self.history = []
        self.needed = []
        self.waiting = 0
        self.pile = Pile(self.high)
        self.tally = None if wanted is None else Tally(self.high, wanted)
        # A generator waits for the end of its degree as a pair with -1 and its index.
        for index, (table, _) in enumerate(self.generators):
            if table:
                heappush(self.pile.pairs, (self.lift.last_of_degree(max(table)), -1, index))
                self.waiting += 1

    def run(self):
        """Takes pairs until none is left."""
        while self.pile.pairs:
            self.take()

    def run_up_to(self, degree):
        """Takes pairs until none of at most a degree is left."""
        while self.pile.pairs and self.lift.degree(self.pile.pairs[0][0]) <= degree:
            self.take()

    def needed_generators(self):
        """The indexes of the generators that are not in the ideal of those ahead of them, by ascending degrees.

        Each generator must have monomials of one degree.
        """
        while self.pile.pairs and self.waiting:
            self.take()
        return self.needed

    def take(self):
        """Takes the least pair and keeps what its division leaves; no pair is left if this is 1.

        Returns whether there is such a rest.
        """
        pile = self.pile
        _, one, other = heappop(pile.pairs)
        if one < 0:
            self.waiting -= 1
        value, history = self.start(one, other)
        rest, steps = divided(self.high, value, pile.living())
        if not rest:
            return False
        many = len(self.generators)
        history += [(many + pile.alive[index], code, -n, d) for index, code, n, d in steps]
        self.keep(rest_table(rest), history)
        if one < 0:
            self.needed.append(other)
        if self.lift.lowered(rest[0][0]) == 0:
            pile.pairs = []
        if self.tally is not None:
            self.leave_out_pairs()
        return True

    def leave_out_pairs(self):
        """Leaves out the pairs of degrees in which no leading monomial is lacking."""
        least = self.tally.least_degree()
        pairs = self.pile.pairs
        while pairs and (least is None or self.lift.degree(pairs[0][0]) < least):
            heappop(pairs)

    def start(self, one, other):
        """The packed polynomial of a pair, and the history of it."""
        many = len(self.generators)
        if one < 0:
            return (self.generators[other], [(other, 0, 1, 1)])
        (table, below), parts = s_value(self.high, self.pile.reducers[one], self.pile.reducers[other])
        (ahead, n, d), (behind, m, e) = parts
        return (lowest(table, below), [(many + one, ahead, n, d), (many + other, behind, m, e)])

    def keep(self, value, history):
        """Keeps a packed polynomial as a new reducer."""
        reducer, n, d = reducer_of(self.high.field, value[0])
        n = n * value[1]
        self.history.append([(source, self.lift.lowered(code), m * n, e * d) for source, code, m, e in history])
        if self.tally is not None:
            self.tally.put(reducer[0][0], self.pile.mates(reducer[0][0]))
        self.pile.put(reducer)

    def low_pairs(self):
        """The pairs of a reducer and its source that are a basis, the additional variable being left out."""
        many = len(self.generators)
        pairs = []
        for index in self.pile.alive:
            reducer = [(self.lift.lowered(code), n) for code, n in self.pile.reducers[index]]
            pairs.append((reducer, many + index))
        return pairs


class Found:
    """A basis of generators: reducers by ascending leading monomials, none of which divides another one.

    Each has its source; sources and history are those of the completion.
    """

    def __init__(self, coding, pairs, history):
        ranked = sorted(pairs, key=lambda pair: pair[0][0][0])
        kept = []
        for reducer, source in ranked:
            if not any([coding.divides(earlier[0][0], reducer[0][0]) for earlier, _ in kept]):
                kept.append((reducer, source))
        self.reducers = [reducer for reducer, _ in kept]
        self.sources = [source for _, source in kept]
        self.history = history


def is_complete(coding, reducers):
    """Whether reducers are a basis: it is enough to look at the pairs that do not follow from others."""
    pile = Pile(coding)
    for reducer in reducers:
        pile.put(reducer)
    for _, one, other in pile.pairs:
        value, _ = s_value(coding, reducers[one], reducers[other])
        rest, _ = divided(coding, value, reducers, hasty=True)
        if rest:
            return False
    return True


def ready_basis(coding, generators):
    """The generators, which are packed polynomials, themselves, if they are a basis, otherwise None."""
    ready = reducers_of(coding.field, generators)
    if not is_complete(coding, [reducer for reducer, _, _, _ in ready]):
        return None
    many = len(generators)
    pairs = [(row[0], many + place) for place, row in enumerate(ready)]
    return Found(coding, pairs, [[(index, 0, n, d)] for _, index, n, d in ready])


def basis_up_to(coding, generators, degree, wanted=None):
    """Those reducers of the reduced basis that have at most a degree; each generator must have one degree."""
    done = Completion(coding, generators, wanted)
    done.run_up_to(degree)
    return reduced_among(coding, Found(coding, done.low_pairs(), done.history).reducers)


def completed_basis(coding, generators, wanted=None):
    """A basis of generators that are none; what is wanted is that of the completion."""
    done = Completion(coding, generators, wanted)
    done.run()
    return Found(coding, done.low_pairs(), done.history)


def found_basis(coding, generators, wanted=None):
    """A basis of generators, which are packed polynomials."""
    found = ready_basis(coding, generators)
    return completed_basis(coding, generators, wanted) if found is None else found


def reduced_basis(coding, generators):
    """The reducers of the reduced basis of generators, by ascending leading monomials."""
    return reduced_among(coding, found_basis(coding, generators).reducers)


def reduced_among(coding, reducers):
    """The reducers of a basis without terms that leading monomials of others divide."""
    return [without_divisible(coding, reducer, reducers) for reducer in reducers]


def without_divisible(coding, reducer, reducers):
    """A reducer of a basis, its terms behind the leading one replaced by their rest."""
    head, first = reducer[0]
    rest, _ = divided(coding, (dict(reducer[1:]), 1), reducers)
    table, below = rest_table(rest)
    table[head] = first * below
    return reducer_of(coding.field, table)[0]
