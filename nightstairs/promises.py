"""Promises: what will be charged, whatever comes besides the SUPPLIES that are sure."""
from nightstairs.could import could_at_end
from nightstairs.forms import is_amounts, is_tuple_of
from nightstairs.nomore import is_nomore, nomore_paper, said_by
from nightstairs.stairs import stairs
from nightstairs.yards import cars_of, fits, needs_of, sum_of, with_needs


def promised(yard, promise):
    """Return the yard PROMISED."""
    return with_needs(yard, {name: promise.get(name, 0) for name in cars_of(yard)})


def is_kept(yard, promise, sure):
    """Tell whether a PROMISE is KEPT BY SURE."""
    return _could_be_kept(yard, promise, sure) == sum_of(promise)


def _could_be_kept(yard, promise, sure):
    """COULD of the yard PROMISED, at the end of SURE."""
    return could_at_end(stairs(promised(yard, promise)), sure)


def unkept_paper(yard, promise, sure):
    """Return None if a PROMISE is KEPT BY SURE, else a NO-MORE PAPER that says less than its SUM."""
    if is_kept(yard, promise, sure):
        return None
    return nomore_paper(promised(yard, promise), sure, len(sure))


def dearest(yard, worths, sure):
    """Return the PROMISE that gives the CARS with the greatest worth first the most that is KEPT BY SURE."""
    needs = needs_of(yard)
    promise = {}
    for worth, name in sorted([(-worths[name], name) for name in needs if worths[name] > 0]):
        ahead = sum_of(promise)
        promise[name] = needs[name]
        # Nothing ahead of this car is lost by what it gets: all that is more than ahead can be its own.
        promise[name] = _could_be_kept(yard, promise, sure) - ahead
    return {name: promise[name] for name in sorted(promise) if promise[name] > 0}


def worth_of(promise, worths):
    """Return the sum of amounts times worths."""
    return sum([amount * worths[name] for name, amount in promise.items()])


def dearest_paper(yard, worths, sure):
    """Return a DEAREST PAPER that says just what dearest promises."""
    ranks = [promised(yard, _needs_from(yard, worths, worth)) for worth in _worths_above(worths)]
    return tuple([nomore_paper(rank, sure, len(sure)) for rank in ranks])


def _worths_above(worths):
    """The worths above 0, each once, the greatest first."""
    return sorted(set([worth for worth in worths.values() if worth > 0]))[::-1]


def _needs_from(yard, worths, least):
    """The needs of all CARS with this worth or more."""
    return {name: need for name, need in needs_of(yard).items() if worths[name] >= least}


def is_dearest(yard, worths, sure, promise, thing):
    """Tell whether promise is a PROMISE that is KEPT BY SURE, and thing a DEAREST PAPER that shows it worth most."""
    if not is_amounts(yard, promise) or not fits(yard, promise) or any([worths[name] == 0 for name in promise]):
        return False
    ranks = _worths_above(worths)
    if not is_tuple_of(len(ranks), thing) or not is_kept(yard, promise, sure):
        return False
    needs = [_needs_from(yard, worths, least) for least in ranks]
    return all([_says(yard, rank, sure, promise, paper) for rank, paper in zip(needs, thing)])


def _says(yard, needs, sure, promise, paper):
    """Tell whether any value is a NO-MORE PAPER of these needs that says just what a PROMISE has for their CARS."""
    rank = promised(yard, needs)
    if not is_nomore(rank, sure, len(sure), paper):
        return False
    return said_by(rank, sure, len(sure), paper) == sum([amount for name, amount in promise.items() if name in needs])
