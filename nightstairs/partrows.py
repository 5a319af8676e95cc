"""PARTS by rows alone: each one tells the one above it no more than its STAIRS."""
from nightstairs.forms import is_count, is_tuple_of
from nightstairs.orders import order_from
from nightstairs.parts import all_parts
from nightstairs.rows import added, capped, first_taken, step_in
from nightstairs.stairs import stairs
from nightstairs.yards import joined_amounts


def row_of(part):
    """Return the STAIRS of a PART."""
    name, cap, yard, parts = part
    return capped(added([stairs(yard)] + [row_of(below) for below in parts]), cap)


def share_bounds(rows, x):
    """Return for each of the rows the least and the most that it gets of x."""
    if x == 0:
        return ((0, 0),) * len(rows)
    h = sum([times for step, times in added(rows) if step >= x])
    return tuple([(step_in(row, h + 1), step_in(row, h)) for row in rows])


def shares_of(rows, x):
    """Return what each of the rows gets of x, the first ones as much as can be."""
    bounds = share_bounds(rows, x)
    more = x - sum([least for least, most in bounds])
    shares = []
    for least, most in bounds:
        shares.append(min(most, least + more))
        more -= shares[-1] - least
    return tuple(shares)


def are_shares(rows, x, thing):
    """Tell whether any value has a share for each of the rows, such that nothing is lost behind them."""
    if not is_tuple_of(len(rows), thing) or not all([is_count(share) for share in thing]) or sum(thing) != x:
        return False
    return all([least <= share <= most for share, (least, most) in zip(thing, share_bounds(rows, x))])


def order_in(part, supply):
    """Return a RIGHT ORDER of the flat YARD of a PART, dealt by rows."""
    steps = steps_in(part)
    shares = dealt(part, rows_told(part, steps, ()), supply, ())[0]
    return order_by_shares(part, steps, shares)


def steps_in(part):
    """Return the dict from the names of all PARTS to the STAIRS of their own YARDS."""
    return {name: stairs(yard) for name, cap, yard, parts in all_parts(part)}


def rows_told(part, steps, lost):
    """Return the dict from the names of all PARTS to couples: the rows that they deal to, and the row that they tell.

    They deal to their own STAIRS, and to what came of the rows of their parts, () for what is lost.
    """
    told = {}
    for name, cap, yard, parts in all_parts(part)[::-1]:
        came = [() if ("row", below[0]) in lost else told[below[0]][1] for below in parts]
        rows = (steps[name],) + tuple(came)
        told[name] = (rows, capped(added(rows), cap))
    return told


def dealt(part, told, supply, lost):
    """Return two dicts: what the YARDS of the PARTS that deal get, and what is given to those that told a row."""
    had = {part[0]: supply}
    shares, gives = {}, {}
    for name, cap, yard, parts in all_parts(part):
        if name in had:
            rows, row = told[name]
            own = shares_of(rows, first_taken(row, had[name]))
            shares[name] = own[0]
            written = {below[0]: much for below, much in zip(parts, own[1:]) if ("row", below[0]) not in lost}
            gives.update(written)
            had.update({below: much for below, much in written.items() if ("give", below) not in lost})
    return shares, gives


def order_by_shares(part, steps, shares):
    """Return what all CARS get if the YARDS of the PARTS have these shares; steps are the STAIRS of the YARDS."""
    yards = {name: yard for name, cap, yard, parts in all_parts(part)}
    return joined_amounts([order_from(yards[name], steps[name], share) for name, share in shares.items()])
