"""The formulas of demand, least and zero lines: points 14, 21 and 38."""

from rightatlast.demands import Demand
from rightatlast.errors import UpperChoice
from rightatlast.formulas import Formula
from rightatlast.terms import Term


def demand_formula(book, head, by):
    """The formula of the line `demand HEAD by TERM`."""
    return Demand(book, head, by).formula


def least_formula(book, head, by):
    """The formula of the line `least HEAD by TERM`."""
    demand = Demand(book, head, by)
    if demand.choice.upper:
        raise UpperChoice(demand.choice.name)
    return demand.test >> Formula.most(head, by)


def zero_formula(book, head):
    """The formula of the line `zero HEAD`."""
    demand = Demand(book, head, head)
    return Formula.same(head, Term.of_number(0)) | demand.goal
