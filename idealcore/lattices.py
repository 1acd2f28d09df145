"""Lattices: tuples of integers with the same totals, and moves between them."""
from idealcore.checks import check_ring, is_row_of_integers, is_tuple_up_to
from idealcore.coding import Coding
from idealcore.errors import BadCosts, BadMatrix, BadMonomial, BadMoves, OtherTotals, TooMany
from idealcore.reducing import monic
from idealcore.toric import dot, lattice_reducers

MOST_ROWS = 3
MOST_COLUMNS = 4
MOST_ENTRY = 8
MOST_SOLUTION = 20
MOST_COST = 20
MOST_MOVES = 12
MOST_STEP = 20
MOST_IN_FIBRE = 2000


def is_matrix(value):
    """Whether a value is a matrix."""
    if not is_tuple_up_to(value, MOST_ROWS) or len(value) == 0 or not isinstance(value[0], tuple):
        return False
    many = len(value[0])
    if not 1 <= many <= MOST_COLUMNS or not is_row_of_integers(value[0], many, 1, MOST_ENTRY):
        return False
    return all(is_row_of_integers(row, many, 0, MOST_ENTRY) for row in value)


def check_matrix(value):
    """BadMatrix for what is not a matrix."""
    if not is_matrix(value):
        raise BadMatrix("not a matrix")


def check_solution(matrix, value):
    """BadMonomial for what is not a solution."""
    if not is_row_of_integers(value, len(matrix[0]), 0, MOST_SOLUTION):
        raise BadMonomial(f"not a tuple of an integer from 0 to {MOST_SOLUTION} for each column")


def check_moves(matrix, value):
    """BadMoves for what is not a tuple of moves."""
    if not is_tuple_up_to(value, MOST_MOVES):
        raise BadMoves(None)
    for index, move in enumerate(value):
        if not is_row_of_integers(move, len(matrix[0]), -MOST_STEP, MOST_STEP) or any(totals_of(matrix, move)):
            raise BadMoves(index)


def check_two_solutions(matrix, moves, one, other):
    """BadMatrix, BadMoves, BadMonomial for one and for other, OtherTotals."""
    check_matrix(matrix)
    check_moves(matrix, moves)
    check_solution(matrix, one)
    check_solution(matrix, other)
    if totals_of(matrix, one) != totals_of(matrix, other):
        raise OtherTotals("unlike totals")


def totals_of(matrix, some):
    """The totals of a tuple of integers."""
    return tuple([dot(row, some) for row in matrix])


def lattice_ideal(ring, matrix):
    """The reduced basis of the ideal of all differences of two monomials with the same totals."""
    ring_coding = check_ring(ring)
    check_matrix(matrix)
    if len(matrix[0]) != ring_coding.many:
        raise BadMatrix("another number of columns than the ring has variables")
    coding, reducers = lattice_reducers(ring_coding.field, matrix, ring[2])
    return tuple([monic(coding, reducer) for reducer in reducers])


def tuples_with(matrix, totals, most=None):
    """The ascending list of the tuples of integers from 0 on with some totals, only some if there are more than most.

    The columns with the greatest integers in the first row are filled first, as there are the fewest choices.
    """
    many = len(matrix[0])
    places = sorted(list(range(many)), key=lambda place: -matrix[0][place])
    columns = [tuple([row[place] for row in matrix]) for place in places]
    found = []
    collect(columns, totals, (), found, most)
    return sorted([tuple([row[places.index(place)] for place in range(many)]) for row in found])


def collect(columns, left, chosen, found, most):
    """Appends the tuples that begin with chosen integers, totals being left, to those that are found."""
    column = columns[len(chosen)]
    times = left[0] // column[0]
    if len(chosen) + 1 == len(columns):
        if all([total == times * entry for total, entry in zip(left, column)]):
            found.append(chosen + (times,))
        return
    for number in range(times + 1):
        rest = tuple([total - number * entry for total, entry in zip(left, column)])
        if min(rest) < 0 or most is not None and len(found) > most:
            return
        collect(columns, rest, chosen + (number,), found, most)


def few_tuples(matrix, some):
    """The tuples with the totals of a solution: TooMany(2000)."""
    found = tuples_with(matrix, totals_of(matrix, some), MOST_IN_FIBRE)
    if len(found) > MOST_IN_FIBRE:
        raise TooMany(MOST_IN_FIBRE)
    return found


def fibre(matrix, some):
    """All tuples of integers from 0 on that have the totals of a solution, ascending."""
    check_matrix(matrix)
    check_solution(matrix, some)
    return few_tuples(matrix, some)


def cheapest(matrix, costs, some):
    """The tuple with the totals of a solution with the least costs, the least one in "degrevlex" if there are more."""
    check_matrix(matrix)
    if not is_row_of_integers(costs, len(matrix[0]), 1, MOST_COST):
        raise BadCosts(f"not a tuple of an integer from 1 to {MOST_COST} for each column")
    check_solution(matrix, some)
    # Of equal degrees, the tuple with more at the last place is less.
    return min(tuples_with(matrix, totals_of(matrix, some)), key=lambda row: (dot(row, costs), sum(row), falling(row)))


def falling(row):
    """The negative integers of a tuple, from the last one on."""
    return [-number for number in reversed(row)]


class Mover:
    """Moves between tuples, which are kept as codes."""

    def __init__(self, many, moves):
        self.coding = Coding(0, many, ())
        self.steps = []
        for move in moves:
            up = self.coding.code([max(number, 0) for number in move])
            down = self.coding.code([max(-number, 0) for number in move])
            self.steps += [(down, up), (up, down)]

    def neighbours(self, code):
        """The codes of the tuples that differ from one by a move."""
        return [code - down + up for down, up in self.steps if self.coding.divides(down, code)]

    def row(self, one, other):
        """A shortest row of tuples from one to another one by moves, None if there is none."""
        start, end = self.coding.code(one), self.coding.code(other)
        ahead = {start: start}
        edge = [start]
        while edge and end not in ahead:
            wider = []
            for code in edge:
                for near in self.neighbours(code):
                    if near not in ahead:
                        ahead[near] = code
                        wider.append(near)
            edge = wider
        return self.way(ahead, start, end) if end in ahead else None

    def way(self, ahead, start, end):
        """The tuples on the way from the start to the end, if each code has one ahead of it."""
        codes = [end]
        while codes[-1] != start:
            codes.append(ahead[codes[-1]])
        return tuple([self.coding.exponents(code) for code in reversed(codes)])


def is_joined(matrix, moves, one, other):
    """Whether moves join two solutions with the same totals."""
    check_two_solutions(matrix, moves, one, other)
    return Mover(len(one), moves).row(one, other) is not None


def walk(matrix, moves, one, other):
    """A shortest row of tuples from one solution to another one by moves, None if there is none."""
    check_two_solutions(matrix, moves, one, other)
    few_tuples(matrix, one)
    return Mover(len(one), moves).row(one, other)


def unjoined(matrix, moves):
    """Two tuples with the same totals that the moves do not join, None if they join all.

    If each difference of monomials that generates the ideal of the matrix has its monomials joined, all are.
    """
    check_matrix(matrix)
    check_moves(matrix, moves)
    mover = Mover(len(matrix[0]), moves)
    coding, reducers = lattice_reducers(0, matrix, "degrevlex")
    for (ahead, _), (behind, _) in reducers:
        one, other = coding.exponents(ahead), coding.exponents(behind)
        if mover.row(one, other) is None:
            return (one, other)
    return None
