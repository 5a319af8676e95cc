"""RIGHT ORDERS, found by one flow through copies of the net.

One copy is the hour, with the SUM of the order; behind it comes a copy for each run of the STAIRS that are left then,
with as many hours and just what these charge. The amounts of the hour are a RIGHT ORDER exactly if all copies can be
full beside them: then the hours up to the end of each run have what is due there.
"""
from nightstairs.flows import amount_arc, copies_net
from nightstairs.nets import most_through
from nightstairs.rows import first_taken, taken
from nightstairs.stairs import stairs
from nightstairs.yards import cars_of, charged


def order_for(yard, supply):
    """Return a RIGHT ORDER."""
    return order_from(yard, stairs(yard), supply)


def order_from(yard, steps, supply):
    """Return what order_for does; steps are the STAIRS of the yard."""
    return _order_in(yard, full_copies(yard, steps, supply)[1])


def orders_for(yard, night):
    """Return a PLAN of a NIGHT, of RIGHT ORDERS."""
    steps = stairs(yard)
    plan = []
    for supply in night:
        amounts = order_from(yard, steps, supply)
        plan.append(amounts)
        yard = charged(yard, amounts)
        # These are the STAIRS of the yard now, as the order is RIGHT.
        steps = taken(steps, first_taken(steps, supply))
    return tuple(plan)


def order_by(yard, supply, names):
    """Return the RIGHT ORDER that gives the first one of names the most, then the second one, and so on."""
    net, through = full_copies(yard, stairs(yard), supply)
    told = []
    for name in names:
        arc = amount_arc(yard, name)
        through = with_most_on(net, through, arc, told)
        told.append(arc)
    return _order_in(yard, through)


def full_copies(yard, steps, supply):
    """Return the NET of the copies, and a THROUGH by which all of them are full; steps are the STAIRS of the yard."""
    x = first_taken(steps, supply)
    copies = [(times, step * times) for step, times in taken(steps, x)]
    net = copies_net(yard, ((1, x),) + tuple(copies))
    return net, most_through(net)


def _order_in(yard, through):
    """The amounts that a THROUGH of full_copies has for the hour."""
    amounts = {name: through[amount_arc(yard, name)] for name in cars_of(yard)}
    return {name: amount for name, amount in amounts.items() if amount > 0}


def with_most_on(net, through, arc, told):
    """Return a THROUGH of the same VALUE with the most on an arc, the told arcs being as they are.

    No arc of the NET is without a bound.
    """
    start, end, cap = net[1][arc]
    much, later = _sent(net, through, told + [arc], (end, start, cap - through[arc]))
    later[arc] += much
    return tuple(later)


def with_least_on(net, through, arc, told):
    """Return a THROUGH of the same VALUE with the least on an arc, the told arcs being as they are.

    No arc of the NET is without a bound.
    """
    start, end, cap = net[1][arc]
    much, later = _sent(net, through, told + [arc], (start, end, through[arc]))
    later[arc] -= much
    return tuple(later)


def _sent(net, through, told, wish):
    """How much of the wish (start, end, most) can be sent beside a THROUGH, and the list of what the arcs have then."""
    many, arcs = net
    start, end, most = wish
    # The source and the sink stand ahead of the numbers of the net.
    # Each arc of the net can take what it has room for, and give back what it has.
    rest = [(0, 2 + start, most), (2 + end, 1, most)]
    for at, (here, there, cap) in enumerate(arcs):
        much = through[at]
        rest.append((2 + here, 2 + there, 0 if at in told else cap - much))
        rest.append((2 + there, 2 + here, 0 if at in told else much))
    sent = most_through((2 + many, tuple(rest)))
    return sent[0], [much + more - less for much, more, less in zip(through, sent[2::2], sent[3::2])]
