"""Papers that show that an ORDER is RIGHT, and papers that show that it is not."""
from nightstairs.flows import carried, carries, most_flow
from nightstairs.forms import is_amounts, is_count, is_flow, is_integer, is_tuple_of
from nightstairs.keeping import short_hours
from nightstairs.reach import is_reach_paper, reach_paper, said_by
from nightstairs.rows import ends_of, first_taken, reach_in, taken
from nightstairs.stairs import are_whole, lines, pairs_of, stairs_of
from nightstairs.yards import charged, fits, joined_amounts, sum_of


def order_paper(yard, supply, amounts):
    """Return an ORDER PAPER for an ORDER, None if it is not RIGHT."""
    if short_hours(yard, supply, amounts) is not None:
        return None
    papers = lines(yard)
    later = taken(stairs_of(pairs_of(yard, papers)), sum_of(amounts))
    left = charged(yard, amounts)
    corners = [(h,) + most_flow(left, ((h, None),))[1][0] for h in ends_of(later)]
    return carried(yard, 1, amounts), papers, tuple(corners)


def is_order_paper(yard, supply, amounts, thing):
    """Tell whether amounts are AMOUNTS that FIT the yard, and thing is an ORDER PAPER for them."""
    if not is_amounts(yard, amounts) or not fits(yard, amounts) or not is_tuple_of(3, thing):
        return False
    flow, papers, corners = thing
    if not is_flow(yard, flow) or not carries(yard, 1, amounts, flow) or not _are_whole_papers(yard, papers):
        return False
    steps = stairs_of(pairs_of(yard, papers))
    x = sum_of(amounts)
    return x == first_taken(steps, supply) and _are_corners(charged(yard, amounts), taken(steps, x), corners)


def _are_whole_papers(yard, thing):
    """Tell whether any value is a tuple of REACH PAPERS, one with the base 0 and one with the rise 0 among them."""
    if not isinstance(thing, tuple) or not all([is_reach_paper(yard, paper) for paper in thing]):
        return False
    return are_whole(pairs_of(yard, thing))


def _are_corners(yard, later, thing):
    """Tell whether any value shows that the yard reaches these STAIRS at the end of each run."""
    ends = ends_of(later)
    if not is_tuple_of(len(ends), thing):
        return False
    return all([_is_corner(yard, h, reach_in(later, h), corner) for h, corner in zip(ends, thing)])


def _is_corner(yard, h, most, thing):
    """Tell whether any value shows that the yard can be charged with so much in h hours."""
    if not is_tuple_of(3, thing) or not is_integer(thing[0]) or thing[0] != h or not _is_shown(yard, h, thing[1:]):
        return False
    return fits(yard, thing[1]) and sum_of(thing[1]) == most


def _is_shown(yard, h, thing):
    """Tell whether any value is a couple of AMOUNTS and a FLOW that CARRIES them in h hours."""
    if not is_tuple_of(2, thing) or not is_amounts(yard, thing[0]) or not is_flow(yard, thing[1]):
        return False
    return carries(yard, h, thing[0], thing[1])


def short_paper(yard, supply, amounts):
    """Return a SHORT PAPER for an ORDER with the h of short_hours, None if it is RIGHT."""
    h = short_hours(yard, supply, amounts)
    if h is None:
        return None
    first, many = most_flow(yard, ((1, supply), (h, None)))[1]
    return h, first, many, reach_paper(charged(yard, amounts), h)


def is_short_paper(yard, supply, amounts, thing):
    """Tell whether any value is a SHORT PAPER for an ORDER."""
    if not is_tuple_of(4, thing) or not is_count(thing[0]):
        return False
    h, first, many, paper = thing
    if not _is_shown(yard, 1, first) or not _is_shown(yard, h, many) or not is_reach_paper(yard, paper):
        return False
    both = joined_amounts([first[0], many[0]])
    if sum_of(first[0]) > supply or not fits(yard, both):
        return False
    return said_by(charged(yard, amounts), h, paper) < sum_of(both) - sum_of(amounts)
