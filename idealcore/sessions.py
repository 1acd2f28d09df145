"""Sessions: ideals that are kept under names."""
from idealcore.checks import check_ring
from idealcore.coding import plain_coding
from idealcore.colons import rest_of
from idealcore.commands import lines_of
from idealcore.completion import reduced_among, reduced_basis
from idealcore.errors import BadName, NotText
from idealcore.hilbert import dimension_of
from idealcore.ideals import meet_of_bases, products_of, quotient_of_basis
from idealcore.packed import packed
from idealcore.plain import basis_of_reducers, fewer, packed_plainly
from idealcore.reducing import table_of
from idealcore.texts import text_of


class Kept:
    """An ideal: packed generators and the reducers of the reduced basis in "degrevlex", and the reduced basis itself.

    None of them is bound in number or size.
    """

    def __init__(self, coding, generators, reducers):
        self.generators = fewer(generators, reducers)
        self.reducers = reducers
        self.basis = basis_of_reducers(coding, reducers)


def kept_by_generators(coding, generators):
    """The ideal of packed generators."""
    return Kept(coding, generators, reduced_basis(plain_coding(coding), generators))


def kept_by_basis(coding, reducers):
    """The ideal of the reducers of a basis."""
    reduced = reduced_among(plain_coding(coding), reducers)
    return Kept(coding, [table_of(reducer) for reducer in reduced], reduced)


def sum_of_kept(coding, one, other):
    """The sum of two ideals."""
    return kept_by_generators(coding, one.generators + other.generators)


def product_of_kept(coding, one, other):
    """The product of two ideals."""
    return kept_by_generators(coding, products_of(coding.field, one.generators, other.generators))


def meet_of_kept(coding, one, other):
    """The meet of two ideals."""
    return kept_by_basis(coding, meet_of_bases(plain_coding(coding), one.reducers, other.reducers))


def quotient_of_kept(coding, one, other):
    """The quotient of an ideal by another one."""
    return kept_by_basis(coding, quotient_of_basis(plain_coding(coding), one.reducers, other.generators))


JOINING = {"sum": sum_of_kept, "product": product_of_kept, "meet": meet_of_kept, "quotient": quotient_of_kept}


def made_by(coding, kept, line):
    """The ideal that a line gives to a name."""
    if line.word == "let":
        return kept_by_generators(coding, packed_plainly(coding, line.polys))
    action = JOINING[line.word]
    return action(coding, kept[line.labels[0]], kept[line.labels[1]])


def told_of(coding, ideal, line):
    """The answer of a line that asks for something of an ideal."""
    if line.word == "basis":
        return [text_of(coding, p) for p in ideal.basis]
    plain = plain_coding(coding)
    if line.word == "dim":
        return dimension_of(plain, ideal.reducers)
    return not rest_of(plain, packed(plain, line.polys[0]), ideal.reducers)[0]


def carry_out(coding, kept, line):
    """Carries out a line on a dict from names to ideals, and returns its answer."""
    name = line.labels[-1]
    if line.word == "let" or line.word in JOINING:
        kept[name] = made_by(coding, kept, line)
        return len(kept[name].basis)
    if line.word == "drop":
        del kept[name]
        return None
    return told_of(coding, kept[name], line)


def answers_of(coding, former, text):
    """The answers of the lines of a text, and the ideals under their names behind them: NotText, InvalidCommand."""
    if not isinstance(text, str):
        raise NotText("not a string")
    kept = {name: former[name] for name in former}
    answers = []
    for line in lines_of(coding, text, former):
        answers.append(carry_out(coding, kept, line))
    return (answers, kept)


class Session:
    """Ideals of a ring under names; the former ones are what stood under the names ahead of each run."""

    def __init__(self, ring):
        self.coding = check_ring(ring)
        self.kept = {}
        self.former = []

    def run(self, text):
        """Runs the commands of a text and returns their answers."""
        answers, kept = answers_of(self.coding, self.kept, text)
        self.former.append(self.kept)
        self.kept = kept
        return answers

    def trial(self, text):
        """What run would return or raise; nothing is changed."""
        answers, _ = answers_of(self.coding, self.kept, text)
        return answers

    def names(self):
        """The names that stand for ideals, ascending."""
        return tuple(sorted(list(self.kept)))

    def ideal_of(self, name):
        """The reduced basis of a name."""
        if not isinstance(name, str) or name not in self.kept:
            raise BadName("not a name that stands for an ideal")
        return self.kept[name].basis

    def undo(self):
        """Takes back the last run that has not been taken back; returns whether there is one."""
        if not self.former:
            return False
        self.kept = self.former.pop()
        return True
