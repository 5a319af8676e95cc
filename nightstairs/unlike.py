"""HARD YARDS, whose CARS leave at unlike hours, or have needs of two ranks: what is best there, by going through.

A row has the amount of each CAR. What ORDERS can lead to are the rows below some greatest ones, which all have the same
sum, hour by hour: whoever has got less can do no better. So only the greatest rows are gone through.
"""
from nightstairs.forms import is_integer, is_tuple_of, is_yard
from nightstairs.nights import check_product, is_plan, order_rows
from nightstairs.yards import cars_of, joined_amounts, needs_of


def is_hard(thing):
    """Tell whether any value is a HARD YARD."""
    if not is_tuple_of(3, thing) or not is_yard(thing[1]) or not isinstance(thing[2], dict):
        return False
    word, yard, numbers = thing
    needs = needs_of(yard)
    if len(numbers) != len(needs) or not all([name in numbers and is_integer(numbers[name]) for name in needs]):
        return False
    if word == "leaves":
        return all([numbers[name] >= 1 for name in needs])
    return word == "firsts" and all([0 <= numbers[name] <= need for name, need in needs.items()])


def is_hard_plan(hard, night, thing):
    """Tell whether any value is a HARD PLAN of a NIGHT."""
    if not is_plan(hard[1], night, thing):
        return False
    return all([_is_there(hard, name, hour) for hour, amounts in enumerate(thing) for name in amounts])


def _is_there(hard, name, hour):
    """Tell whether a CAR can be charged in an hour."""
    word, yard, numbers = hard
    return word == "firsts" or numbers[name] > hour


def aim_of(hard, plan):
    """Return the AIM of a HARD PLAN."""
    got = joined_amounts(plan)
    return aim_in(counted(hard), [got.get(name, 0) for name in cars_of(hard[1])])


def counted(hard):
    """Return for each place of the AIM the row of the most that counts there of what the CARS got."""
    word, yard, numbers = hard
    needs = [need for name, knot, rate, need in yard[1]]
    return [needs] if word == "leaves" else [[numbers[name] for name in cars_of(yard)], needs]


def aim_in(most, row):
    """Return the AIM of a row; most is what counted tells."""
    return tuple([sum([min(one, got) for one, got in zip(place, row)]) for place in most])


def best_aim(hard, night):
    """Return for each place of the AIMS the greatest number that a HARD PLAN has there."""
    # One HARD PLAN has them all, so the greatest tuple has them.
    return aim_of(hard, best_plan(hard, night))


def good_begins(hard, night):
    """Return the list of all ORDERS that BEGIN a NIGHT WELL."""
    hard = needy(hard)
    begins = order_rows(hard[1], night[0])
    aims = best_aims(hard, begins, _rows_behind(hard, night[1:]))
    best = max(aims)
    return [_amounts_in(hard, row) for row, aim in zip(begins, aims) if aim == best]


def best_plan(hard, night):
    """Return a BEST HARD PLAN."""
    if night == ():
        return ()
    hard = needy(hard)
    hops = _hops(hard, night, 0)
    most = counted(hard)
    row = max(list(hops[-1]), key=lambda last: aim_in(most, last))
    plan = []
    for ahead in reversed(hops):
        plan.append(_amounts_in(hard, [later - got for later, got in zip(row, ahead[row])]))
        row = ahead[row]
    return tuple(plan[::-1])


def _amounts_in(hard, row):
    return {name: amount for name, amount in zip(cars_of(hard[1]), row) if amount > 0}


def needy(hard):
    """Return the HARD YARD without CARS that need nothing: they get nothing anywhere. Raise TooMany as all do."""
    word, yard, numbers = hard
    cables, cars = yard
    check_product([need for name, knot, rate, need in cars])
    return word, (cables, tuple([car for car in cars if car[3] > 0])), numbers


def best_aims(hard, begins, ends):
    """Return for each row of a first hour the best AIM with one of the rows of the hours behind it."""
    most = counted(hard)
    return [max([aim_in(most, [one + other for one, other in zip(row, end)]) for end in ends]) for row in begins]


def _rows_behind(hard, night):
    """The greatest rows that the hours of a NIGHT behind a first hour lead to."""
    hops = _hops(hard, night, 1)
    return [no_row(hard)] if hops == [] else list(hops[-1])


def no_row(hard):
    """Return the row of nothing."""
    return (0,) * len(hard[1][1])


def _hops(hard, night, first):
    """For each hour of a NIGHT, the first one being this, the dict from the rows behind it to those ahead of it."""
    rows = [no_row(hard)]
    orders = order_rows(hard[1], max((0,) + night))
    hops = []
    for at, supply in enumerate(night):
        hops.append(rows_on(hard, rows, full_rows(hard, orders, first + at, supply)))
        rows = list(hops[-1])
    return hops


def full_rows(hard, orders, hour, supply):
    """Return those of the rows of all ORDERS that are the greatest ones in an hour with a SUPPLY."""
    gone = [at for at, name in enumerate(cars_of(hard[1])) if not _is_there(hard, name, hour)]
    return _greatest([row for row in orders if sum(row) <= supply and all([row[at] == 0 for at in gone])])


def rows_on(hard, rows, orders):
    """Return the dict from the greatest rows behind an hour to rows ahead of it, from which its ORDERS lead there."""
    needs = [need for name, knot, rate, need in hard[1][1]]
    found = {}
    for row in rows:
        for order in orders:
            # Of an ORDER that gives more than is needed a part is an ORDER as well.
            found[tuple([min(need, one + other) for need, one, other in zip(needs, row, order)])] = row
    return {row: found[row] for row in _greatest(list(found))}


def _greatest(rows):
    most = max([sum(row) for row in rows])
    return [row for row in rows if sum(row) == most]
