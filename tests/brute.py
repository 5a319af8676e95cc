"""Yards, nets and odd values for the tests, and what the document says of them, by going through all."""
import itertools
import random

YARD = ((("a", "b", 3), ("feed", "a", 5)), (("bus", "a", 4, 6), ("van", "b", 2, 5)))
EMPTY = ((), ())

# Values that are nothing that the document names.
ODD = (
    None, True, False, -1, 10 ** 39, "", "feed", "A", "a b", "x" * 21, "cable", "a\nb", (), [], {}, ((),), [()], ((), (), ()),
    (None,), (True,), ([],), ((1, 2), 3), {"a": 1}, {("a", "b"): 1}, {None: None}, {1: 1}, (("a", "b"), "c"), [[[[]]]],
    ("a", "b", "c", "d"), ValueError("x"), ((((((((),),),),),),),), ("feed", ("feed", "a"), 1), (0, None), ((0, None), None),
)


def spoiled(value):
    """Yield values that differ from this one in one place, at any depth."""
    yield from ODD
    if isinstance(value, bool) or value is None:
        return
    if isinstance(value, int):
        yield from (value + 1, value - 1, -value, str(value), (value,))
        if value in (0, 1):
            yield bool(value)
    elif isinstance(value, str):
        yield from (value + "x", value.upper(), value[1:], value + " ", "1" + value, (value,), [value])
    elif isinstance(value, (tuple, list)):
        yield from _spoiled_row(value)
    elif isinstance(value, dict):
        yield from _spoiled_dict(value)


def _spoiled_row(value):
    make = type(value)
    items = list(value)
    yield list(value) if make is tuple else tuple(value)
    yield make(items[::-1])
    yield make(items + [None])
    for at in range(len(items)):
        yield make(items[:at] + items[at + 1:])
        yield make(items[:at] + [items[at]] + items[at:])
        for other in spoiled(items[at]):
            yield make(items[:at] + [other] + items[at + 1:])
        if at:
            yield make(items[:at - 1] + [items[at], items[at - 1]] + items[at + 1:])


def _spoiled_dict(value):
    yield list(value.items())
    yield {key: value[key] for key in reversed(list(value))}
    yield {**value, "zz": 1}
    for key in value:
        yield {other: value[other] for other in value if other != key}
        for thing in spoiled(value[key]):
            yield {**value, key: thing}
        for thing in spoiled(key):
            try:
                yield {thing if other == key else other: value[other] for other in value}
            except TypeError:
                # No key of a dict.
                continue


def lots_of(names):
    """All LOTS of these names."""
    names = sorted(names)
    return [lot for many in range(len(names) + 1) for lot in itertools.combinations(names, many)]


def knots_of(yard):
    knots = {"feed"}
    for start, end, _ in yard[0]:
        knots |= {start, end}
    return sorted(knots | {car[1] for car in yard[1]})


def cuts_of(yard):
    return lots_of(set(knots_of(yard)) - {"feed"})


def car_lots_of(yard):
    return lots_of(car[0] for car in yard[1])


def worth(yard, cut, lot):
    total = 0
    for start, end, cap in yard[0]:
        if end in cut and start not in cut:
            total += cap
    for name, knot, rate, _ in yard[1]:
        if name in lot and knot not in cut:
            total += rate
    return total


def limit(yard, lot):
    return min(worth(yard, cut, lot) for cut in cuts_of(yard))


def limits(yard):
    """The LIMIT of each LOT of CARS."""
    return {lot: limit(yard, lot) for lot in car_lots_of(yard)}


def needs_out(yard, lot):
    return sum(need for name, _, _, need in yard[1] if name not in lot)


def most_sum(yard, copies, known=None):
    """The least that a COPIES PAPER says, by going through all lots and cuts."""
    best = None
    for lot, worth_of_lot in (known or limits(yard)).items():
        said = needs_out(yard, lot)
        for times, most in copies:
            carried = times * worth_of_lot
            said += carried if most is None else min(most, carried)
        best = said if best is None else min(best, said)
    return best


def reach(yard, h, known=None):
    return most_sum(yard, ((h, None),), known)


def steps_to_stairs(steps):
    runs = []
    for step in steps:
        if step and runs and runs[-1][0] == step:
            runs[-1] = (step, runs[-1][1] + 1)
        elif step:
            runs.append((step, 1))
    return tuple(runs)


def stairs(yard):
    """The STAIRS of a small yard, step by step."""
    known = limits(yard)
    whole = [reach(yard, h, known) for h in range(sum(car[3] for car in yard[1]) + 2)]
    return steps_to_stairs(behind - ahead for ahead, behind in zip(whole, whole[1:]))


def carries(yard, times, amounts, flow):
    for start, end, cap in yard[0]:
        if flow.get((start, end), 0) > times * cap:
            return False
    for name, _, rate, _ in yard[1]:
        if amounts.get(name, 0) > times * rate:
            return False
    for knot in knots_of(yard):
        comes = sum(much for (_, end), much in flow.items() if end == knot)
        goes = sum(much for (start, _), much in flow.items() if start == knot)
        gets = sum(amounts.get(name, 0) for name, stand, _, _ in yard[1] if stand == knot)
        if knot != "feed" and comes != goes + gets:
            return False
    return True


def some_yard(chance, cars=4, cables=5, knots=3, great=4):
    """A yard of this size at most, in which most knots can be reached."""
    places = ["feed"] + ["k%d" % at for at in range(knots)]
    caps = {}
    for at in range(1, len(places)):
        if chance.random() < 0.85:
            caps[places[chance.randrange(at)], places[at]] = chance.randint(0, great)
    for _ in range(chance.randint(0, max(0, cables - knots))):
        start, end = chance.sample(places, 2)
        if end != "feed":
            caps[start, end] = chance.randint(0, great)
    rows = []
    for at in range(chance.randint(0, cars)):
        rows.append(("c%02d" % at, chance.choice(places), chance.randint(1, great), chance.randint(0, 3 * great)))
    return tuple(sorted(ends + (cap,) for ends, cap in caps.items())), tuple(rows)


def some_yards(seed, many, **sizes):
    chance = random.Random(seed)
    return [some_yard(chance, **sizes) for _ in range(many)]


def some_copies(chance, many=3, hours=3, most=8):
    row = []
    for _ in range(chance.randint(0, many)):
        row.append((chance.randint(0, hours), chance.choice([None, 0, chance.randint(0, most)])))
    return tuple(row)


def great_yard(seed):
    """A yard as great as it may be: 24 cars, 40 cables, numbers of twelve digits."""
    chance = random.Random(seed)
    places = ["feed"] + ["k%02d" % at for at in range(18)]
    caps = {}
    for at in range(1, len(places)):
        caps[places[chance.randrange(max(0, at - 3), at)], places[at]] = chance.randint(1, 10 ** 12 - 1)
    while len(caps) < 40:
        start, end = chance.sample(places, 2)
        if end != "feed":
            caps[start, end] = chance.randint(0, 10 ** 12 - 1)
    cars = []
    for at in range(24):
        need = chance.choice([0, 10 ** 12 - 1, chance.randint(1, 10 ** 12 - 1)])
        cars.append(("c%02d" % at, chance.choice(places), chance.randint(1, 10 ** chance.randint(1, 12) - 1), need))
    return tuple(sorted(ends + (cap,) for ends, cap in caps.items())), tuple(cars)


def some_net(chance, numbers=5, arcs=8, great=5):
    """A net of this size at most; arcs without a bound lead on to greater numbers but 1 only, so none go from 0 to 1."""
    many = chance.randint(2, numbers)
    rows = []
    for _ in range(chance.randint(0, arcs)):
        start, end = chance.sample(range(many), 2)
        cap = chance.choice([0, 1, chance.randint(0, great), chance.randint(0, great)])
        if 1 not in (start, end) and start < end and chance.random() < 0.3:
            cap = None
        rows.append((start, end, cap))
    return many, tuple(rows)


def some_through(chance, net):
    """A THROUGH had by going along any ways and rings, often not the greatest."""
    many, arcs = net
    through = [0] * len(arcs)
    for _ in range(chance.randint(0, 6)):
        first, last = chance.choice([(0, 1), (1, 0)] + [(number, number) for number in range(many)])
        trail = _some_trail(chance, arcs, through, first, last)
        if trail:
            rooms = [much - through[at] for at, much in ((at, arcs[at][2]) for at in trail) if much is not None]
            add = chance.randint(0, min(rooms + [3]))
            for at in trail:
                through[at] += add
    return tuple(through)


def _some_trail(chance, arcs, through, first, last):
    here, trail = first, []
    for _ in range(6):
        ways = [at for at, (start, _, cap) in enumerate(arcs)
                if start == here and at not in trail and (cap is None or cap > through[at])]
        if not ways:
            return None
        trail.append(chance.choice(ways))
        here = arcs[trail[-1]][1]
        if here == last:
            return trail
    return None


def net_cuts(net):
    """For each set with 0 and without 1, as an ascending tuple, what leads out of it; None without a bound."""
    many, arcs = net
    cuts = {}
    for others in lots_of(range(2, many)):
        side = (0,) + others
        caps = [cap for start, end, cap in arcs if start in side and end not in side]
        cuts[side] = None if None in caps else sum(caps)
    return cuts


def slow_through(chance, net):
    """A greatest THROUGH found unit by unit, along whatever ways chance takes; numbers are to be small."""
    many, arcs = net
    through = [0] * len(arcs)
    while True:
        before = {0: None}
        front = [0]
        while front:
            here = front.pop(chance.randrange(len(front)))
            for at, (start, end, cap) in enumerate(arcs):
                if start == here and end not in before and (cap is None or through[at] < cap):
                    before[end] = (here, at, 1)
                    front.append(end)
                if end == here and start not in before and through[at] > 0:
                    before[start] = (here, at, -1)
                    front.append(start)
        if 1 not in before:
            return tuple(through)
        here = 1
        while here != 0:
            here, at, much = before[here]
            through[at] += much


def steps_in(told, many):
    """The first so many steps of STAIRS, 0 behind them."""
    steps = [step for step, times in told for _ in range(min(times, many))]
    return (steps + [0] * many)[:many]


def reach_in(told, h):
    """The sum of the first h steps of STAIRS."""
    total = 0
    for step, times in told:
        total += step * min(times, h)
        h -= min(times, h)
    return total


def some_stairs(chance, runs=4, step=9, times=4):
    """STAIRS of so many runs at most."""
    steps = sorted(chance.sample(range(1, step + 1), chance.randint(0, min(runs, step))), reverse=True)
    return tuple((step, chance.randint(1, times)) for step in steps)


def great_stairs(chance, runs=20):
    steps = sorted({chance.randint(1, 10 ** 12) for _ in range(runs)}, reverse=True)
    return tuple((step, chance.choice([1, 2, chance.randint(1, 10 ** 15)])) for step in steps)


def some_night(chance, hours=4, most=6):
    return tuple(chance.randint(0, most) for _ in range(chance.randint(0, hours)))


def order_rows(yard, known=None):
    """All that one hour of plenty can carry, whatever the needs, as tuples of the amounts of all CARS, ascending."""
    known = known or limits(yard)
    names = [car[0] for car in yard[1]]
    parts = [([names.index(name) for name in lot], limit_of_lot) for lot, limit_of_lot in known.items()]
    rows = itertools.product(*[range(car[2] + 1) for car in yard[1]])
    return [row for row in rows if all(sum(row[at] for at in places) <= most for places, most in parts)]


def orders(yard, supply, rows=None):
    """All ORDERS of a yard, as such tuples, by the limits of all lots."""
    rows = order_rows(yard) if rows is None else rows
    needs = [car[3] for car in yard[1]]
    return [row for row in rows if sum(row) <= supply and all(one <= need for one, need in zip(row, needs))]


def amounts_of(yard, row):
    return {car[0]: amount for car, amount in zip(yard[1], row) if amount}


def row_of(yard, amounts):
    return tuple(amounts.get(car[0], 0) for car in yard[1])


def less(yard, amounts):
    """The yard charged with these."""
    return yard[0], tuple((name, knot, rate, need - amounts.get(name, 0)) for name, knot, rate, need in yard[1])


def could(yard, night, rows=None):
    """COULD(m) for each m, by going through all plans; those behind which the same is left are gone through once."""
    rows = order_rows(yard) if rows is None else rows
    needs = [car[3] for car in yard[1]]
    reached, most = {(0,) * len(needs)}, [0]
    for supply in night:
        hour = [row for row in rows if sum(row) <= supply]
        behind = {tuple(map(sum, zip(got, row))) for got in reached for row in hour}
        reached = {got for got in behind if all(one <= need for one, need in zip(got, needs))}
        most.append(max(map(sum, reached)))
    return tuple(most)


def is_order(yard, supply, thing):
    """An ORDER, by the limits of all lots."""
    if type(thing) is not dict or not all(type(amount) is int and amount > 0 for amount in thing.values()):
        return False
    if any(name not in [car[0] for car in yard[1]] for name in thing):
        return False
    if any(thing.get(name, 0) > need for name, _, _, need in yard[1]) or sum(thing.values()) > supply:
        return False
    return all(sum(thing.get(name, 0) for name in lot) <= limit(yard, lot) for lot in car_lots_of(yard))


def is_plan(yard, night, thing):
    if type(thing) is not tuple or len(thing) != len(night):
        return False
    for supply, amounts in zip(night, thing):
        if not is_order(yard, supply, amounts):
            return False
        yard = less(yard, amounts)
    return True


def is_nomore(yard, night, m, thing):
    if type(thing) is not tuple or len(thing) != 3 or type(thing[0]) is not tuple:
        return False
    if not all(type(hour) is int and hour in range(m) for hour in thing[0]) or list(thing[0]) != sorted(set(thing[0])):
        return False
    return is_lot(thing[1], [car[0] for car in yard[1]]) and is_lot(thing[2], set(knots_of(yard)) - {"feed"})


def is_lot(thing, names):
    if type(thing) is not tuple or not all(type(name) is str and name in names for name in thing):
        return False
    return list(thing) == sorted(set(thing))


def nomore_said(yard, night, m, paper):
    hours, lot, cut = paper
    rest = sum(supply for at, supply in enumerate(night[:m]) if at not in hours)
    return rest + needs_out(yard, lot) + len(hours) * worth(yard, cut, lot)


def least_said(yard, night, m, known=None):
    """The least that a NO-MORE PAPER for m says, by going through all of them."""
    found = []
    for hours in lots_of(range(m)):
        rest = sum(night[at] for at in range(m) if at not in hours)
        for lot, worth_of_lot in (known or limits(yard)).items():
            found.append(rest + needs_out(yard, lot) + len(hours) * worth_of_lot)
    return min(found)


def hours_of(yard):
    """A number of hours behind which no more is charged."""
    return sum(car[3] for car in yard[1]) + 1


def reaches(yard, many, known=None):
    """REACH(h) for the first so many h."""
    pairs = {(needs_out(yard, lot), most) for lot, most in (known or limits(yard)).items()}
    return [min(base + h * rise for base, rise in pairs) for h in range(many)]


def short_hours(yard, supply, amounts, known=None, ahead=None):
    """None of a RIGHT ORDER, 0 of one that is not full, else the least h with less than is due."""
    known = known or limits(yard)
    x, many = sum(amounts.values()), hours_of(yard)
    ahead = ahead or reaches(yard, many + 1, known)
    if x != min(supply, ahead[1]):
        return 0
    for h, told in enumerate(reaches(less(yard, amounts), many, known)):
        if told != min(ahead[h], ahead[h + 1] - x):
            return h
    return None


def right_orders(yard, supply, known=None, rows=None):
    """All RIGHT ORDERS, as tuples of the amounts of all CARS, by going through all ORDERS."""
    known = known or limits(yard)
    ahead = reaches(yard, hours_of(yard) + 1, known)
    found = orders(yard, supply, rows or order_rows(yard, known))
    full = [row for row in found if sum(row) == min(supply, ahead[1])]
    return [row for row in full if short_hours(yard, supply, amounts_of(yard, row), known, ahead) is None]


def with_needs(yard, needs):
    """The yard in which the cars have these needs, and the others none."""
    return yard[0], tuple((name, knot, rate, needs.get(name, 0)) for name, knot, rate, _ in yard[1])


def could_at_end(yard, night, known=None):
    return least_said(yard, night, len(night), known)


def full_yard(seed):
    """As great_yard, but its cables carry much of what its cars can take."""
    chance = random.Random(seed)
    places = ["feed"] + ["k%02d" % at for at in range(14)]
    caps = {("feed", place): chance.randint(1, 10 ** 12 - 1) for place in places[1:4]}
    while len(caps) < 40:
        start = chance.randrange(13)
        end = chance.randint(start + 1, min(14, start + 4))
        if start and chance.random() < 0.15:
            start, end = end, start
        caps[places[start], places[end]] = chance.randint(0, 10 ** 12 - 1)
    cars = []
    for at in range(24):
        rate = chance.randint(1, 10 ** chance.randint(9, 12) - 1)
        cars.append(("c%02d" % at, chance.choice(places[2:]), rate, chance.randint(0, 10 ** chance.randint(9, 12) - 1)))
    return tuple(sorted(ends + (cap,) for ends, cap in caps.items())), tuple(cars)


def roomy_yards(seed, many):
    """Yards whose cars could take far more than the cables carry, so that what they share can be parted in many ways."""
    chance = random.Random(seed)
    yards = []
    for _ in range(many):
        cables = (("feed", "k", chance.randint(3, 7)), ("k", "m", chance.randint(1, 5)))
        cars = [(name, chance.choice("km"), chance.randint(3, 7), chance.randint(2, 12)) for name in "abc"]
        yards.append((cables, tuple(cars)))
    return yards
