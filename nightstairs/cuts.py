"""Cuts: the most that an hour can carry to some cars, whatever their needs."""
from nightstairs.flows import amounts_and_flow, knots_net
from nightstairs.nets import most_through, source_side, value_of
from nightstairs.yards import knots_of


def worth(yard, cut, lot):
    """Return the WORTH of a CUT for a LOT of CARS."""
    cables, cars = yard
    caps = [cap for start, end, cap in cables if start not in cut and end in cut]
    rates = [rate for name, knot, rate, need in cars if name in lot and knot not in cut]
    return sum(caps) + sum(rates)


def limit(yard, lot):
    """Return the LIMIT of a LOT of CARS."""
    net = _lot_net(yard, lot)
    return value_of(net, most_through(net))


def least_cut(yard, lot):
    """Return the CUT whose WORTH is the LIMIT, and that lies in each other such one."""
    net = _lot_net(yard, lot)
    # What could still send more to the sink is what the sink reaches in the net turned about.
    near = source_side(_turned_about(net), most_through(net))
    knots = [knot for knot in knots_of(yard) if knot != "feed"]
    return tuple([knot for index, knot in enumerate(knots) if 2 + index in near])


def limit_flow(yard, lot):
    """Return AMOUNTS of cars of the lot with the LIMIT as their SUM, and a FLOW that CARRIES them in 1 hour."""
    return amounts_and_flow(yard, most_through(_lot_net(yard, lot)))


def _lot_net(yard, lot):
    """The NET of one hour, in which only the CARS of the lot take something."""
    return knots_net(yard, 1, [rate if name in lot else 0 for name, knot, rate, need in yard[1]])


def _turned_about(net):
    """The NET with each arc turned about, and with source and sink in each other's place."""
    many, arcs = net
    places = [1, 0] + list(range(2, many))
    return many, tuple([(places[end], places[start], cap) for start, end, cap in arcs])
