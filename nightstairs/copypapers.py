"""Papers that show that copies together charge no more."""
from nightstairs.cuts import worth
from nightstairs.flows import copies_net, copy_numbers
from nightstairs.forms import is_car_lot, is_cut, is_tuple_of
from nightstairs.nets import most_through, source_side
from nightstairs.yards import cars_of, need_of


def bound_of(yard, copies, paper):
    """Return the integer that a COPIES PAPER says."""
    lot, cuts = paper
    total = need_of(yard, [name for name in cars_of(yard) if name not in lot])
    for (times, most), cut in zip(copies, cuts):
        total += most if cut is None else times * worth(yard, cut, lot)
    return total


def copies_paper(yard, copies):
    """Return a COPIES PAPER that says just most_sum."""
    net = copies_net(yard, copies)
    near = source_side(net, most_through(net))
    lot = tuple([name for at, name in enumerate(cars_of(yard)) if 2 + at not in near])
    return lot, tuple([_cut_beyond(copy_numbers(yard, at), near) for at in range(len(copies))])


def _cut_beyond(numbers, near):
    """The CUT of the KNOTS of a copy that are not near; None where its bound is what cuts it off."""
    if numbers["feed"] not in near:
        return None
    return tuple([knot for knot, number in numbers.items() if number not in near])


def is_copies_paper(yard, copies, most, thing):
    """Tell whether any value is a COPIES PAPER that says at most most."""
    if not is_tuple_of(2, thing) or not is_car_lot(yard, thing[0]) or not is_tuple_of(len(copies), thing[1]):
        return False
    if not all([_may_stand(yard, copy, cut) for copy, cut in zip(copies, thing[1])]):
        return False
    return bound_of(yard, copies, thing) <= most


def _may_stand(yard, copy, cut):
    """Tell whether any value is a CUT, or None where a copy has a bound."""
    return copy[1] is not None if cut is None else is_cut(yard, cut)
