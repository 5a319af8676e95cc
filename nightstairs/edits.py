"""Edits of yards."""
from nightstairs.errors import NoCable, NoCar
from nightstairs.forms import is_cable, is_car, is_name, is_tuple_of


def is_edit(thing):
    """Tell whether any value is an EDIT."""
    if not isinstance(thing, tuple) or thing == ():
        return False
    word = thing[0]
    if word == "cable":
        return is_cable(thing[1:])
    if word == "no cable":
        # Its two knots are those that some cable could have.
        return is_cable(thing[1:] + (0,))
    if word == "car":
        return is_car(thing[1:])
    return word == "no car" and is_tuple_of(2, thing) and is_name(thing[1])


def changed(yard, edits):
    """Return the YARD behind all these EDITS, one behind the other."""
    caps, cars = _caps_and_cars(yard)
    for edit in edits:
        if edit[0] == "cable":
            caps[(edit[1], edit[2])] = edit[3]
        elif edit[0] == "no cable":
            _take_cable(caps, edit[1], edit[2])
        elif edit[0] == "car":
            cars[edit[1]] = edit[1:]
        else:
            _take_car(cars, edit[1])
    cables = [(start, end, caps[(start, end)]) for start, end in sorted(caps)]
    return tuple(cables), tuple([cars[name] for name in sorted(cars)])


def _caps_and_cars(yard):
    cables, cars = yard
    return {(start, end): cap for start, end, cap in cables}, {car[0]: car for car in cars}


def _take_cable(caps, start, end):
    if (start, end) not in caps:
        raise NoCable(start, end)
    del caps[(start, end)]


def _take_car(cars, name):
    if name not in cars:
        raise NoCar(name)
    del cars[name]


def edits_between(one, other):
    """Return the list of fewest EDITS that make the other YARD of the first one."""
    caps, cars = _caps_and_cars(one)
    later_caps, later_cars = _caps_and_cars(other)
    edits = []
    for start, end in _unlike_keys(caps, later_caps):
        if (start, end) in later_caps:
            edits.append(("cable", start, end, later_caps[(start, end)]))
        else:
            edits.append(("no cable", start, end))
    for name in _unlike_keys(cars, later_cars):
        if name in later_cars:
            edits.append(("car",) + later_cars[name])
        else:
            edits.append(("no car", name))
    return edits


def _unlike_keys(one, other):
    """The keys, ascending, under which two dicts without None have not the same."""
    return [key for key in sorted(set(list(one) + list(other))) if one.get(key) != other.get(key)]
