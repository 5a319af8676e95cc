"""What a house writes on its DISK, and the STEPS of its hours and edits."""
from nightstairs.edits import changed
from nightstairs.forms import is_count, is_integer, is_name, is_positive, is_rising, is_tuple_of, is_yard
from nightstairs.orders import order_for
from nightstairs.yards import needs_of, with_needs


def is_disk(thing):
    """Tell whether any value is a DISK."""
    return is_tuple_of(2, thing) and _are_goals(thing[0]) and _is_order(thing[1])


def _are_goals(thing):
    return is_tuple_of(2, thing) and is_yard(thing[0]) and _is_number(thing[1])


def _is_order(thing):
    return is_tuple_of(3, thing) and _is_number(thing[0]) and is_count(thing[1]) and _are_rows(thing[2])


def _is_number(thing):
    """Tell whether any value is an integer from -1 on."""
    return is_integer(thing) and thing >= -1


def _are_rows(thing):
    """Tell whether any value is an ascending tuple of names and amounts, no name twice."""
    if not isinstance(thing, tuple) or not all([_is_row(row) for row in thing]):
        return False
    return is_rising([row[0] for row in thing])


def _is_row(thing):
    return is_tuple_of(2, thing) and is_name(thing[0]) and is_positive(thing[1])


def first_disk(yard):
    """Return the DISK with this YARD, all METERS being 0."""
    return (yard, -1), (-1, 0, ())


def disk_behind(disk, step):
    """Return the DISK behind a STEP."""
    goals, order = disk
    if step[0] == "goals":
        return step[1], order
    if step[0] == "order":
        return goals, step[1]
    return goals, order


def yard_now(disk, meters):
    """Return the YARD of the goals with the needs that are left."""
    yard = disk[0][0]
    return with_needs(yard, {name: max(0, goal - meters.get(name, 0)) for name, goal in needs_of(yard).items()})


def hour_steps(disk, meters, number, supply):
    """Return the tuple of the STEPS of an hour."""
    (yard, closed), (last, last_supply, rows) = disk
    if number <= closed:
        return ()
    if number == last:
        return _sends(number, rows)
    rows = tuple(order_for(yard_now(disk, meters), supply).items())
    return (("order", (number, supply, rows)),) + _sends(number, rows)


def _sends(number, rows):
    return tuple([("send", name, number, amount) for name, amount in rows])


def edit_steps(disk, meters, edits):
    """Return the tuple of the one STEP of EDITS."""
    (yard, closed), (last, supply, rows) = disk
    later = changed(yard_now(disk, meters), edits)
    goals = with_needs(later, {name: need + meters.get(name, 0) for name, need in needs_of(later).items()})
    return (("goals", (goals, max(closed, last))),)
