"""What is what: each function tells of any value whether it is as its name says."""

_LETTERS = "abcdefghijklmnopqrstuvwxyz"
_SIGNS = "abcdefghijklmnopqrstuvwxyz0123456789"


def is_integer(thing):
    """Tell whether it is an integer; True and False are none."""
    return isinstance(thing, int) and not isinstance(thing, bool)


def is_count(thing):
    """Tell whether it is an integer from 0 on."""
    return is_integer(thing) and thing >= 0


def is_positive(thing):
    """Tell whether it is an integer from 1 on."""
    return is_integer(thing) and thing >= 1


def is_name(thing):
    """Tell whether it is a NAME."""
    if not isinstance(thing, str) or thing == "" or len(thing) > 20:
        return False
    return thing[0] in _LETTERS and all([sign in _SIGNS for sign in thing])


def is_tuple_of(many, thing):
    """Tell whether it is a tuple with so many parts."""
    return isinstance(thing, tuple) and len(thing) == many


def is_rising(row):
    """Tell whether each item of a list or tuple is less than the one behind it."""
    return all([one < other for one, other in zip(row, row[1:])])


def is_cable(thing):
    """Tell whether it is a CABLE."""
    if not is_tuple_of(3, thing):
        return False
    start, end, cap = thing
    return is_name(start) and is_name(end) and start != end and end != "feed" and is_count(cap)


def is_car(thing):
    """Tell whether it is a CAR."""
    if not is_tuple_of(4, thing):
        return False
    name, knot, rate, need = thing
    return is_name(name) and is_name(knot) and is_positive(rate) and is_count(need)


def is_yard(thing):
    """Tell whether it is a YARD."""
    return is_tuple_of(2, thing) and _are_cables(thing[0]) and _are_cars(thing[1])


def _are_cables(thing):
    if not isinstance(thing, tuple) or not all([is_cable(row) for row in thing]):
        return False
    return is_rising([(start, end) for start, end, cap in thing])


def _are_cars(thing):
    if not isinstance(thing, tuple) or not all([is_car(row) for row in thing]):
        return False
    return is_rising([row[0] for row in thing])


def is_night(thing):
    """Tell whether it is a NIGHT."""
    return isinstance(thing, tuple) and all([is_count(supply) for supply in thing])


def is_stairs(thing):
    """Tell whether it is STAIRS."""
    if not isinstance(thing, tuple) or not all([_is_run(run) for run in thing]):
        return False
    return is_rising([-step for step, times in thing])


def _is_run(thing):
    return is_tuple_of(2, thing) and is_positive(thing[0]) and is_positive(thing[1])


def is_lot_of(names, thing):
    """Tell whether it is a LOT of some of these strings."""
    if not isinstance(thing, tuple):
        return False
    if not all([isinstance(name, str) and name in names for name in thing]):
        return False
    return is_rising(thing)


def is_car_lot(yard, thing):
    """Tell whether it is a LOT of names of CARS of the yard."""
    return is_lot_of([car[0] for car in yard[1]], thing)


def knots_in(yard):
    """Return the LOT of the KNOTS of a YARD."""
    starts = [start for start, end, cap in yard[0]]
    ends = [end for start, end, cap in yard[0]]
    stands = [knot for name, knot, rate, need in yard[1]]
    return tuple(sorted(set(["feed"] + starts + ends + stands)))


def is_cut(yard, thing):
    """Tell whether it is a CUT of the yard."""
    return is_lot_of([knot for knot in knots_in(yard) if knot != "feed"], thing)


def is_amounts(yard, thing):
    """Tell whether it is AMOUNTS of the yard."""
    if not isinstance(thing, dict):
        return False
    names = [car[0] for car in yard[1]]
    return all([isinstance(name, str) and name in names and is_positive(amount) for name, amount in thing.items()])


def is_flow(yard, thing):
    """Tell whether it is a FLOW of the yard, whatever it carries."""
    if not isinstance(thing, dict):
        return False
    couples = {(start, end): True for start, end, cap in yard[0]}
    return all([_is_couple(ends) and ends in couples and is_positive(much) for ends, much in thing.items()])


def _is_couple(thing):
    return is_tuple_of(2, thing) and isinstance(thing[0], str) and isinstance(thing[1], str)


def is_copies(thing):
    """Tell whether it is COPIES."""
    return isinstance(thing, tuple) and all([_is_copy(copy) for copy in thing])


def _is_copy(thing):
    return is_tuple_of(2, thing) and is_count(thing[0]) and (thing[1] is None or is_count(thing[1]))
