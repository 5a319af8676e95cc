"""Prices of hours: what is bought for a wish, and how little must be raised for it."""
from nightstairs.could import could_at_end
from nightstairs.edits import changed
from nightstairs.forms import is_night, is_tuple_of
from nightstairs.nomore import is_nomore, least_paper, nomore_paper, said_by
from nightstairs.rows import step_in
from nightstairs.stairs import stairs


def cheapest(yard, prices, limits, wish):
    """Return the NIGHT that is bought, hour by hour, the cheapest first, None if the wish is beyond the LIMITS."""
    steps = stairs(yard)
    if could_at_end(steps, limits) < wish:
        return None
    night = (0,) * len(limits)
    for price, hour in sorted([(price, hour) for hour, price in enumerate(prices)]):
        # All that was bought is charged, so what could be more than that is what this hour still raises.
        more = could_at_end(steps, _with_supply(night, hour, limits[hour])) - sum(night)
        night = _with_supply(night, hour, min(more, wish - sum(night)))
    return night


def _with_supply(night, hour, supply):
    """The NIGHT with this SUPPLY in an hour."""
    return night[:hour] + (supply,) + night[hour + 1:]


def cost_of(prices, night):
    """Return the sum of prices times SUPPLIES."""
    return sum([price * supply for price, supply in zip(prices, night)])


def cheap_paper(yard, prices, limits, wish):
    """Return a CHEAP PAPER for cheapest, None if there is no such NIGHT."""
    night = cheapest(yard, prices, limits, wish)
    if night is None:
        return None
    steps = stairs(yard)
    papers = []
    for price in _prices_told(prices):
        reached = sum(_up_to(prices, night, price)) == wish
        papers.append(None if reached else least_paper(yard, steps, _up_to(prices, limits, price)))
    return tuple(papers)


def _prices_told(prices):
    """The prices, each once, the least first."""
    return sorted(set(prices))


def _up_to(prices, night, most):
    """The NIGHT in which the hours with a greater price have 0."""
    return tuple([supply if price <= most else 0 for price, supply in zip(prices, night)])


def is_cheapest(yard, prices, limits, wish, night, thing):
    """Tell whether night is one that gives the wish, and thing a CHEAP PAPER that shows that none costs less."""
    if not is_night(night) or len(night) != len(limits) or sum(night) != wish:
        return False
    if any([supply > limit for supply, limit in zip(night, limits)]):
        return False
    told = _prices_told(prices)
    if not is_tuple_of(len(told), thing) or could_at_end(stairs(yard), night) != wish:
        return False
    sums = [sum(_up_to(prices, night, price)) for price in told]
    nights = [_up_to(prices, limits, price) for price in told]
    return all([_says(yard, most, wish, some, paper) for most, some, paper in zip(sums, nights, thing)])


def _says(yard, most, wish, night, paper):
    """Tell whether any value is a NO-MORE PAPER of the NIGHT that says just so much, or None where this is the wish."""
    if paper is None:
        return most == wish
    return is_nomore(yard, night, len(night), paper) and said_by(yard, night, len(night), paper) == most


def least_supply(yard, night, hour, wish):
    """Return the least SUPPLY of an hour with which COULD at the end is at least the wish, None if none is enough."""
    steps = stairs(yard)
    # More than the first step no hour takes.
    if could_at_end(steps, _with_supply(night, hour, step_in(steps, 1))) < wish:
        return None
    # Up to there each unit of the SUPPLY is one that could be charged.
    return max(0, wish - could_at_end(steps, _with_supply(night, hour, 0)))


def least_cap(yard, night, ends, wish):
    """Return the least cap of a CABLE with which COULD at the end is at least the wish, None if none is enough."""
    cap = 0
    lack, hours = _lack(_with_cap(yard, ends, cap), night, ends, wish)
    while lack > 0:
        if hours == 0:
            return None
        # The paper says less than the wish for all caps below this one; what says least here counts fewer hours.
        cap += (lack + hours - 1) // hours
        lack, hours = _lack(_with_cap(yard, ends, cap), night, ends, wish)
    return cap


def _with_cap(yard, ends, cap):
    """The YARD in which the CABLE with these ends has this cap."""
    start, end = ends
    return changed(yard, [("cable", start, end, cap)])


def _lack(yard, night, ends, wish):
    """What COULD at the end lacks of the wish, and for how many hours the paper of it counts the cap of a CABLE."""
    paper = nomore_paper(yard, night, len(night))
    hours, lot, cut = paper
    start, end = ends
    counted = len(hours) if start not in cut and end in cut else 0
    return wish - said_by(yard, night, len(night), paper), counted


def raise_paper(yard, night, place, wish, number):
    """Return a NO-MORE PAPER that says less than the wish, of the whole NIGHT with number - 1 at the place."""
    if isinstance(place, tuple):
        return nomore_paper(_with_cap(yard, place, number - 1), night, len(night))
    return nomore_paper(yard, _with_supply(night, place, number - 1), len(night))
