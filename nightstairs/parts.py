"""PARTS: yards in parts, each of which hangs by one cable from the one above it."""
from nightstairs.errors import NoPart
from nightstairs.forms import is_count, is_name, is_rising, is_tuple_of, is_yard
from nightstairs.yards import cars_of, charged, knots_of


def is_part(thing):
    """Tell whether any value is a PART."""
    if not _is_formed(thing):
        return False
    names = parts_in(thing)
    cars = [name for one in all_parts(thing) for name in cars_of(one[2])]
    return len(set(names)) == len(names) and len(set(cars)) == len(cars)


def _is_formed(thing):
    """Tell whether any value is a PART, but that names can come twice in unlike places."""
    if not is_tuple_of(4, thing):
        return False
    name, cap, yard, parts = thing
    if not is_name(name) or not is_count(cap) or not is_yard(yard) or not isinstance(parts, tuple):
        return False
    return all([_is_formed(below) for below in parts]) and is_rising([below[0] for below in parts])


def all_parts(part):
    """Return the list of all PARTS in one: itself, then for each of its parts those in this one."""
    found = [part]
    for below in part[3]:
        found.extend(all_parts(below))
    return found


def parts_in(part):
    """Return the list of the names of all PARTS in one."""
    return [one[0] for one in all_parts(part)]


def part_in(part, name):
    """Return the PART with a name."""
    for one in all_parts(part):
        if one[0] == name:
            return one
    raise NoPart(name)


def above_of(part, name):
    """Return the name of the PART of whose parts the one with a name is one, None for part itself."""
    if part[0] == name:
        return None
    for one in all_parts(part):
        if name in [below[0] for below in one[3]]:
            return one[0]
    raise NoPart(name)


def without_part(part, name):
    """Return the PART without the one with a name."""
    if above_of(part, name) is None:
        raise NoPart(name)
    return part_of(part, [other for other in parts_in(part) if other != name])


def part_of(part, names):
    """Return the PART without all PARTS in it that have none of these names."""
    name, cap, yard, parts = part
    return name, cap, yard, tuple([part_of(below, names) for below in parts if below[0] in names])


def flat_yard(part):
    """Return the one YARD that a PART is."""
    names = parts_in(part)
    cables = [("feed", "p0", part[1])]
    cars = []
    for name, cap, yard, parts in all_parts(part):
        knots = _flat_knots(names.index(name), yard)
        cables.extend([(knots["feed"], f"p{names.index(below[0])}", below[1]) for below in parts])
        cables.extend([(knots[start], knots[end], most) for start, end, most in yard[0]])
        cars.extend([(car, knots[knot], rate, need) for car, knot, rate, need in yard[1]])
    return tuple(sorted(cables)), tuple(sorted(cars))


def _flat_knots(at, yard):
    """The dict from the KNOTS of the YARD of the PART with this index to those of the one YARD."""
    knots = [knot for knot in knots_of(yard) if knot != "feed"]
    flat = {knot: f"p{at}k{index}" for index, knot in enumerate(knots)}
    flat["feed"] = f"p{at}"
    return flat


def charged_part(part, amounts):
    """Return the PART in which the CARS need less by these amounts."""
    name, cap, yard, parts = part
    own = {car: amounts[car] for car in cars_of(yard) if car in amounts}
    return name, cap, charged(yard, own), tuple([charged_part(below, amounts) for below in parts])
