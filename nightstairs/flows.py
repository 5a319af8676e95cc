"""What the nets of a yard carry: one copy for some hours, or several that share the needs."""
from nightstairs.nets import most_through, value_of
from nightstairs.yards import cars_of, knots_of


def copies_net(yard, copies):
    """Return the NET of COPIES: first the arcs of the needs, then for each copy those of _copy_arcs.

    Behind 0 and 1 the numbers are those of the CARS, then for each copy those of its KNOTS.
    """
    cars = yard[1]
    arcs = [(2 + at, 1, need) for at, (name, knot, rate, need) in enumerate(cars)]
    for at, copy in enumerate(copies):
        arcs.extend(_copy_arcs(yard, copy, copy_numbers(yard, at)))
    return 2 + len(cars) + len(copies) * len(knots_of(yard)), tuple(arcs)


def copy_numbers(yard, at):
    """Return the dict from the KNOTS of the copy with this index to their numbers in copies_net."""
    knots = knots_of(yard)
    first = 2 + len(yard[1]) + at * len(knots)
    return {knot: first + index for index, knot in enumerate(knots)}


def amount_arc(yard, name):
    """Return the index of the arc in copies_net that leads to the CAR with this name in the first copy."""
    cables, cars = yard
    return len(cars) + 1 + len(cables) + cars_of(yard).index(name)


def _copy_arcs(yard, copy, numbers):
    """The arc of its bound, those of the CABLES, and those to the CARS."""
    cables, cars = yard
    times, most = copy
    arcs = [(0, numbers["feed"], most)]
    arcs.extend([(numbers[start], numbers[end], times * cap) for start, end, cap in cables])
    arcs.extend([(numbers[knot], 2 + at, times * rate) for at, (name, knot, rate, need) in enumerate(cars)])
    return arcs


def knots_net(yard, times, gives):
    """Return the NET with `feed` as source, in which the CARS can get what gives has for each.

    The arcs are those of the CABLES, then those from the KNOTS of the CARS to the sink.
    """
    cables, cars = yard
    knots = [knot for knot in knots_of(yard) if knot != "feed"]
    numbers = {knot: 2 + index for index, knot in enumerate(knots)}
    numbers["feed"] = 0
    arcs = [(numbers[start], numbers[end], times * cap) for start, end, cap in cables]
    arcs.extend([(numbers[car[1]], 1, give) for car, give in zip(cars, gives)])
    return 2 + len(knots), tuple(arcs)


def amounts_and_flow(yard, numbers):
    """Return the AMOUNTS and the FLOW of a tuple with the number of each CABLE, then of each CAR."""
    cables, cars = yard
    flow = {(start, end): much for (start, end, cap), much in zip(cables, numbers) if much > 0}
    amounts = {car[0]: much for car, much in zip(cars, numbers[len(cables):]) if much > 0}
    return amounts, flow


def most_flow(yard, copies):
    """Return the greatest SUM of all copies, and for each copy the AMOUNTS and the FLOW that do this."""
    cables, cars = yard
    through = most_through(copies_net(yard, copies))
    size = 1 + len(cables) + len(cars)
    begins = [len(cars) + at * size for at in range(len(copies))]
    rows = [amounts_and_flow(yard, through[begin + 1:begin + size]) for begin in begins]
    return sum(through[:len(cars)]), tuple(rows)


def most_sum(yard, copies):
    """Return the greatest SUM of all copies."""
    net = copies_net(yard, copies)
    return value_of(net, most_through(net))


def carries(yard, times, amounts, flow):
    """Tell whether a FLOW CARRIES AMOUNTS in so many hours."""
    cables, cars = yard
    if any([flow.get((start, end), 0) > times * cap for start, end, cap in cables]):
        return False
    if any([amounts.get(name, 0) > times * rate for name, knot, rate, need in cars]):
        return False
    rest = {knot: 0 for knot in knots_of(yard)}
    for (start, end), much in flow.items():
        rest[start] -= much
        rest[end] += much
    for name, knot, rate, need in cars:
        rest[knot] -= amounts.get(name, 0)
    return all([much == 0 for knot, much in rest.items() if knot != "feed"])


def carried(yard, times, amounts):
    """Return a FLOW that CARRIES AMOUNTS in so many hours, None if there is none."""
    cars = yard[1]
    gives = [amounts.get(car[0], 0) for car in cars]
    if any([give > times * car[2] for car, give in zip(cars, gives)]):
        return None
    net = knots_net(yard, times, gives)
    through = most_through(net)
    if value_of(net, through) < sum(gives):
        return None
    return amounts_and_flow(yard, through)[1]
