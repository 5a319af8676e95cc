"""What a CAR gets by RIGHT ORDERS, at least and at most."""
from nightstairs.flows import amount_arc
from nightstairs.orders import full_copies, with_least_on, with_most_on
from nightstairs.stairs import stairs
from nightstairs.yards import cars_of


def least_share(yard, supply, name):
    """Return the least that a CAR gets by RIGHT ORDERS."""
    net, through = full_copies(yard, stairs(yard), supply)
    return _least(net, through, amount_arc(yard, name))


def greatest_share(yard, supply, name):
    """Return the greatest that a CAR gets by RIGHT ORDERS."""
    net, through = full_copies(yard, stairs(yard), supply)
    return _greatest(net, through, amount_arc(yard, name))


def shares(yard, supply):
    """Return the dict from the names of all CARS to the least and the greatest that they get by RIGHT ORDERS."""
    net, through = full_copies(yard, stairs(yard), supply)
    arcs = {name: amount_arc(yard, name) for name in cars_of(yard)}
    return {name: (_least(net, through, arc), _greatest(net, through, arc)) for name, arc in arcs.items()}


def _least(net, through, arc):
    return with_least_on(net, through, arc, [])[arc]


def _greatest(net, through, arc):
    return with_most_on(net, through, arc, [])[arc]
