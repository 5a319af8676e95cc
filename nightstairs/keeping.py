"""Which ORDERS keep what is due behind them, and which lose it."""
from nightstairs.nights import is_order
from nightstairs.reach import reach
from nightstairs.rows import first_taken, first_unlike, taken
from nightstairs.stairs import stairs
from nightstairs.yards import charged, sum_of


def due(yard, amounts, h):
    """Return DUE(h) behind an ORDER."""
    return min(reach(yard, h), reach(yard, h + 1) - sum_of(amounts))


def keeps(yard, amounts):
    """Tell whether an ORDER KEEPS."""
    return _first_lost(yard, stairs(yard), amounts) is None


def _first_lost(yard, steps, amounts):
    """The least h for which REACH(h) behind an ORDER is not DUE(h), None if it KEEPS; steps are the yard's STAIRS."""
    return first_unlike(taken(steps, sum_of(amounts)), stairs(charged(yard, amounts)))


def is_right(yard, supply, thing):
    """Tell whether any value is a RIGHT ORDER for a YARD and a SUPPLY."""
    return is_order(yard, supply, thing) and short_hours(yard, supply, thing) is None


def short_hours(yard, supply, amounts):
    """Return None if an ORDER is RIGHT, else the least number of hours of plenty behind which less is charged."""
    steps = stairs(yard)
    if sum_of(amounts) < first_taken(steps, supply):
        return 0
    return _first_lost(yard, steps, amounts)


def after_plenty(yard, supply, amounts, h):
    """Return what is charged by an ORDER and h hours of plenty, and the most that could be."""
    got = sum_of(amounts) + reach(charged(yard, amounts), h)
    return got, min(reach(yard, h + 1), reach(yard, h) + supply)
