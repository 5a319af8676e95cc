"""Yards: what stands in them, and what charging changes."""
from nightstairs.forms import knots_in


def knots_of(yard):
    """Return the LOT of the KNOTS, `feed` among them."""
    return knots_in(yard)


def cars_of(yard):
    """Return the LOT of the names of the CARS."""
    return tuple([car[0] for car in yard[1]])


def car_of(yard, name):
    """Return the CAR with a name, None if there is none."""
    for car in yard[1]:
        if car[0] == name:
            return car
    return None


def cap_of(yard, start, end):
    """Return the cap of the CABLE from start to end, None if there is none."""
    for cable in yard[0]:
        if cable[0] == start and cable[1] == end:
            return cable[2]
    return None


def needs_of(yard):
    """Return the dict from the names of all CARS to their needs."""
    return {name: need for name, knot, rate, need in yard[1]}


def need_of(yard, lot):
    """Return the sum of the needs of a LOT of CARS."""
    return sum([need for name, knot, rate, need in yard[1] if name in lot])


def sum_of(amounts):
    """Return the SUM of AMOUNTS."""
    return sum(amounts.values())


def with_needs(yard, needs):
    """Return the YARD in which the CARS that needs names have these needs."""
    cables, cars = yard
    return cables, tuple([(name, knot, rate, needs.get(name, need)) for name, knot, rate, need in cars])


def fits(yard, amounts):
    """Tell whether AMOUNTS FIT the yard."""
    needs = needs_of(yard)
    return all([amount <= needs[name] for name, amount in amounts.items()])


def charged(yard, amounts):
    """Return the YARD CHARGED with AMOUNTS that FIT it."""
    needs = needs_of(yard)
    return with_needs(yard, {name: needs[name] - amount for name, amount in amounts.items()})


def amounts_between(one, other):
    """Return the AMOUNTS that make the other YARD of the first one, None if there are none such."""
    ahead, behind = needs_of(one), needs_of(other)
    if with_needs(one, behind) != other:
        return None
    if any([behind[name] > ahead[name] for name in ahead]):
        return None
    return {name: ahead[name] - behind[name] for name in ahead if behind[name] < ahead[name]}


def joined_amounts(rows):
    """Return the AMOUNTS in which each car has the sum of what it has in these."""
    sums = {}
    for amounts in rows:
        for name, amount in amounts.items():
            sums[name] = sums.get(name, 0) + amount
    return {name: sums[name] for name in sorted(sums)}
