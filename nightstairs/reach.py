"""Reach: what some hours of plenty can charge."""
from nightstairs.copypapers import copies_paper
from nightstairs.cuts import worth
from nightstairs.flows import carries, most_flow, most_sum
from nightstairs.forms import is_amounts, is_car_lot, is_cut, is_flow, is_tuple_of
from nightstairs.yards import cars_of, fits, need_of, sum_of


def reach(yard, h):
    """Return REACH(h)."""
    return most_sum(yard, ((h, None),))


def is_reach_paper(yard, thing):
    """Tell whether any value is a REACH PAPER."""
    return is_tuple_of(2, thing) and is_car_lot(yard, thing[0]) and is_cut(yard, thing[1])


def couple_of(yard, paper):
    """Return the couple (base, rise) of a REACH PAPER, which says base + h * rise."""
    lot, cut = paper
    rest = [name for name in cars_of(yard) if name not in lot]
    return need_of(yard, rest), worth(yard, cut, lot)


def said_by(yard, h, paper):
    """Return the integer that a REACH PAPER says for h."""
    base, rise = couple_of(yard, paper)
    return base + h * rise


def reach_paper(yard, h):
    """Return a REACH PAPER that says just REACH(h)."""
    lot, cuts = copies_paper(yard, ((h, None),))
    return lot, cuts[0]


def reach_shown(yard, h):
    """Return AMOUNTS with the SUM REACH(h), a FLOW that CARRIES them in h hours, and a REACH PAPER that says so."""
    amounts, flow = most_flow(yard, ((h, None),))[1][0]
    return amounts, flow, reach_paper(yard, h)


def is_reach_shown(yard, h, thing):
    """Tell whether any value shows REACH(h) as reach_shown does."""
    if not is_tuple_of(3, thing):
        return False
    amounts, flow, paper = thing
    if not is_amounts(yard, amounts) or not is_flow(yard, flow) or not is_reach_paper(yard, paper):
        return False
    if not fits(yard, amounts) or not carries(yard, h, amounts, flow):
        return False
    return sum_of(amounts) == said_by(yard, h, paper)
