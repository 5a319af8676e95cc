"""Nights: orders, plans, and what can be charged, found by going through all of them."""
from nightstairs.errors import TooMany
from nightstairs.flows import carried
from nightstairs.forms import is_amounts
from nightstairs.yards import charged, fits, joined_amounts, sum_of

_MOST = 2000


def is_order(yard, supply, thing):
    """Tell whether any value is an ORDER for a YARD and a SUPPLY."""
    if not is_amounts(yard, thing) or not fits(yard, thing):
        return False
    return sum_of(thing) <= supply and carried(yard, 1, thing) is not None


def is_plan(yard, night, thing):
    """Tell whether any value is a PLAN of a NIGHT."""
    if not isinstance(thing, tuple) or len(thing) != len(night):
        return False
    for supply, amounts in zip(night, thing):
        if not is_order(yard, supply, amounts):
            return False
        yard = charged(yard, amounts)
    return True


def led(yard, plan):
    """Return the YARD CHARGED with all ORDERS of a PLAN."""
    return charged(yard, joined_amounts(plan))


def sums_of(plan):
    """Return the tuple of the SUMS of the first m ORDERS together, for m from 0 to the length of the PLAN."""
    sums = [0]
    for amounts in plan:
        sums.append(sums[-1] + sum_of(amounts))
    return tuple(sums)


def all_orders(yard, supply):
    """Return the list of all ORDERS, in the order of their amounts by the CARS."""
    names = [car[0] for car in yard[1]]
    rows = order_rows(yard, supply)
    return [{name: amount for name, amount in zip(names, row) if amount > 0} for row in rows]


def order_rows(yard, supply):
    """Return the list of all ORDERS in the order of all_orders, each as the tuple of the amounts of all CARS."""
    greatest = [min(supply, rate, need) for name, knot, rate, need in yard[1]]
    check_product(greatest)
    rows = [()]
    for most in greatest:
        rows = [row + (amount,) for row in rows for amount in range(min(most, supply - sum(row)) + 1)]
    return [row for row in rows if _is_carried(yard, row)]


def _is_carried(yard, row):
    amounts = {car[0]: amount for car, amount in zip(yard[1], row) if amount > 0}
    return carried(yard, 1, amounts) is not None


def check_product(greatest):
    """Raise TooMany where there would be too many tuples of integers from 0 to these greatest ones."""
    product = 1
    for most in greatest:
        product *= 1 + most
    if product > _MOST:
        raise TooMany(_MOST)


def could_by_all(yard, night):
    """Return COULD(m) for each m from 0 to the length of the NIGHT, by going through all PLANS."""
    if night == ():
        return (0,)
    orders = order_rows(yard, max(night))
    needs = tuple([need for name, knot, rate, need in yard[1]])
    check_product(needs)
    rows = [(0,) * len(needs)]
    sums = [0]
    for supply in night:
        hour = [order for order in orders if sum(order) <= supply]
        rows = _furthest(_rows_behind(rows, hour, needs))
        sums.append(max([sum(row) for row in rows]))
    return tuple(sums)


def _rows_behind(rows, orders, needs):
    """What all CARS can have got behind one ORDER more, each row once, as a dict of True."""
    found = {}
    for row in rows:
        for order in orders:
            later = tuple([one + other for one, other in zip(row, order)])
            if all([got <= need for got, need in zip(later, needs)]):
                found[later] = True
    return found


def _furthest(rows):
    """Those of a dict of rows to which no unit can be added.

    Whoever got less can do nothing that whoever got more could not do as well, so no PLAN that charges most is lost.
    """
    return [row for row in rows if not any([more in rows for more in _rows_above(row)])]


def _rows_above(row):
    """The rows that have one unit more than this one."""
    return [row[:at] + (row[at] + 1,) + row[at + 1:] for at in range(len(row))]
