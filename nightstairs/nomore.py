"""Papers that no more could be charged, and plans that are as good as those of whoever knew the night."""
from nightstairs.could import told_for
from nightstairs.forms import is_car_lot, is_cut, is_integer, is_rising, is_tuple_of
from nightstairs.nights import is_plan, sums_of
from nightstairs.reach import couple_of, reach_paper
from nightstairs.stairs import stairs


def said_by(yard, night, m, paper):
    """Return the number that a NO-MORE PAPER for m says."""
    hours, lot, cut = paper
    base, rise = couple_of(yard, (lot, cut))
    return sum([night[at] for at in range(m) if at not in hours]) + base + len(hours) * rise


def is_nomore(yard, night, m, thing):
    """Tell whether any value is a NO-MORE PAPER for m."""
    if not is_tuple_of(3, thing):
        return False
    hours, lot, cut = thing
    return _is_hour_lot(m, hours) and is_car_lot(yard, lot) and is_cut(yard, cut)


def _is_hour_lot(m, thing):
    """Tell whether any value is a LOT of integers from 0 to m - 1."""
    if not isinstance(thing, tuple) or not all([is_integer(hour) and 0 <= hour < m for hour in thing]):
        return False
    return is_rising(thing)


def nomore_paper(yard, night, m):
    """Return a NO-MORE PAPER that says just COULD(m)."""
    return least_paper(yard, stairs(yard), night[:m])


def least_paper(yard, steps, supplies):
    """Return nomore_paper for the whole of a NIGHT; steps are the STAIRS of the yard."""
    told = told_for(steps, supplies)
    h = told.index(min(told))
    greatest = sorted([(-supply, at) for at, supply in enumerate(supplies)])[:h]
    lot, cut = reach_paper(yard, h)
    return tuple(sorted([at for less, at in greatest])), lot, cut


def papers_of(yard, night):
    """Return the tuple of nomore_paper for m from 0 to the length of the NIGHT."""
    steps = stairs(yard)
    return tuple([least_paper(yard, steps, night[:m]) for m in range(len(night) + 1)])


def is_as_good(yard, night, plan, thing):
    """Tell whether plan is a PLAN, and thing has NO-MORE PAPERS that say just its sums, by every hour."""
    if not is_plan(yard, night, plan) or not is_tuple_of(len(night) + 1, thing):
        return False
    sums = sums_of(plan)
    return all([_says(yard, night, m, thing[m], sums[m]) for m in range(len(night) + 1)])


def _says(yard, night, m, paper, most):
    """Tell whether any value is a NO-MORE PAPER for m that says just so much."""
    return is_nomore(yard, night, m, paper) and said_by(yard, night, m, paper) == most
