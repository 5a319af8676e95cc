"""WITNESSES: two NIGHTS that begin alike, and of which no ORDER begins both well."""
from nightstairs.errors import TooMany
from nightstairs.forms import is_count, is_night, is_tuple_of
from nightstairs.nights import order_rows
from nightstairs.unlike import best_aims, full_rows, good_begins, needy, no_row, rows_on

_MOST = 2000


def is_witness(hard, thing):
    """Tell whether any value is a WITNESS of a HARD YARD."""
    if not is_tuple_of(3, thing) or not is_count(thing[0]) or not is_night(thing[1]) or not is_night(thing[2]):
        return False
    supply, one, other = thing
    begins = good_begins(hard, (supply,) + one)
    others = good_begins(hard, (supply,) + other)
    return not any([amounts in others for amounts in begins])


def witness_in(hard, most, hours):
    """Return the least WITNESS with no SUPPLY above most, and so many hours behind the first; None if there is none."""
    _check_nights(most, hours)
    hard = needy(hard)
    orders = order_rows(hard[1], most)
    tails = _tails(hard, orders, most, hours)
    aims = {}
    for night, rows in tails:
        if rows not in aims:
            aims[rows] = best_aims(hard, orders, rows)
    for supply in range(most + 1):
        places = [at for at, row in enumerate(orders) if sum(row) <= supply]
        pair = _parted([(night, _good_places(aims[rows], places)) for night, rows in tails])
        if pair is not None:
            return (supply,) + pair
    return None


def _check_nights(most, hours):
    """Raise TooMany if there would be too many NIGHTS."""
    many = 1
    for _ in range(hours + 1):
        many *= most + 1
        if many > _MOST:
            raise TooMany(_MOST)


def _tails(hard, orders, most, hours):
    """All NIGHTS of so many hours behind a first one, ascending, each with the tuple of the rows it leads to."""
    tails = [((), (no_row(hard),))]
    for hour in range(1, hours + 1):
        fulls = [full_rows(hard, orders, hour, supply) for supply in range(most + 1)]
        # Many NIGHTS lead to the same rows.
        known = {}
        for night, rows in tails:
            if rows not in known:
                known[rows] = [tuple(sorted(rows_on(hard, rows, full))) for full in fulls]
        tails = [(night + (supply,), later) for night, rows in tails for supply, later in enumerate(known[rows])]
    return tails


def _good_places(aims, places):
    """The places with the best AIM among these, as the bits of an integer."""
    best = max([aims[at] for at in places])
    return sum([1 << at for at in places if aims[at] == best])


def _parted(rows):
    """The least two NIGHTS that have no good place in common, None if there are none."""
    firsts = {}
    for night, good in rows:
        firsts.setdefault(good, night)
    for good, one in firsts.items():
        for other_good, other in firsts.items():
            if good & other_good == 0:
                return one, other
    return None
