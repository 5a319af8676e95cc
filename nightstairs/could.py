"""What could be charged by each hour, by whoever knew the whole NIGHT."""
from nightstairs.flows import most_flow
from nightstairs.rows import reach_in
from nightstairs.stairs import stairs


def told_for(steps, supplies):
    """Return for each h the sum of the first h steps and of the least SUPPLIES, all but h of them."""
    least = [0]
    for supply in sorted(supplies):
        least.append(least[-1] + supply)
    many = len(supplies)
    return [reach_in(steps, h) + least[many - h] for h in range(many + 1)]


def could_at_end(steps, night):
    """Return what could be charged, of STAIRS, by the end of a NIGHT."""
    return min(told_for(steps, night))


def could_by(steps, night):
    """Return the tuple of what could be charged, of STAIRS, in the first m hours, for each m."""
    return tuple([could_at_end(steps, night[:m]) for m in range(len(night) + 1)])


def could(yard, night):
    """Return the tuple of COULD(m) for each m from 0 to the length of the NIGHT."""
    return could_by(stairs(yard), night)


def could_plan(yard, night):
    """Return a PLAN of the NIGHT that charges COULD of its length."""
    rows = most_flow(yard, tuple([(1, supply) for supply in night]))[1]
    return tuple([amounts for amounts, flow in rows])
