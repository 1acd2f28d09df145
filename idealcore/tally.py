"""How many leading monomials of each degree a basis still lacks.

If it is known how many monomials of each degree the leading monomials of a basis divide, pairs need not be looked at
where none is lacking: C. Traverso, 1996.  Such numbers are told as in point 22: the integers k[j] of a dict stand for
the sum of k[j] times the number of all monomials of the degree less j.
"""
from idealcore.exponents import least_ones
from idealcore.series import add_shifted, numerator


def parted(coding, monomial):
    """The exponents of the variables that are no marks, and those of the marks."""
    free = tuple([exponent for place, exponent in enumerate(monomial) if place not in coding.marks])
    return (free, tuple([monomial[place] for place in coding.marks]))


def free_grades(coding):
    """The degrees of the variables that are no marks."""
    return parted(coding, coding.grades)[0]


def generated_numbers(coding, reducers):
    """The numbers of the monomials that the leading monomials of a basis divide."""
    heads = {}
    for reducer in reducers:
        free, marks = parted(coding, coding.exponents(reducer[0][0]))
        heads.setdefault(marks, []).append(free)
    _, mark_grades = parted(coding, coding.grades)
    total = {}
    for marks, lot in heads.items():
        degree = sum([exponent * grade for exponent, grade in zip(marks, mark_grades)])
        add_shifted(total, {0: 1}, degree, 1)
        add_shifted(total, numerator(least_ones(lot), free_grades(coding)), degree, -1)
    return total


def free_numbers(degrees):
    """The numbers of all terms of each degree at places with such degrees."""
    total = {}
    for degree in degrees:
        add_shifted(total, {0: 1}, degree, 1)
    return total


class Tally:
    """The numbers of leading monomials that are lacking, by a coding and its grades."""

    def __init__(self, coding, wanted):
        self.coding = coding
        self.lack = dict(wanted)

    def put(self, head, mates):
        """Counts a new leading monomial: those of its multiples that no mate, one at the same place, divides."""
        monomial = self.coding.exponents(head)
        new, _ = parted(self.coding, monomial)
        others = [parted(self.coding, self.coding.exponents(mate))[0] for mate in mates]
        quotients = [tuple([max(a - b, 0) for a, b in zip(other, new)]) for other in others]
        part = numerator(least_ones(quotients), free_grades(self.coding))
        add_shifted(self.lack, part, self.coding.grade(monomial), -1)

    def least_degree(self):
        """The least degree in which a leading monomial is lacking, None if there is none."""
        return min([degree for degree, number in self.lack.items() if number], default=None)
