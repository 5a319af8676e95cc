"""Nets, and the most that goes through them.

The k-th arc has two sides: 2 * k, along it, and 2 * k + 1, back against it.
The room of a side is what can still be added to the arc, or be taken back from it.
"""
from nightstairs.forms import is_count


def most_through(net):
    """Return a THROUGH of the greatest VALUE."""
    return grown(net, (0,) * len(net[1]))


def grown(net, through):
    """Return a THROUGH of the greatest VALUE that has on each arc into 1 at least as much as this one."""
    rooms, ends, ways = _rooms(net, through), _ends(net), _ways(net)
    levels = _levels(rooms, ends, ways)
    while levels[1] > 0:
        _fill(rooms, ends, ways, levels)
        levels = _levels(rooms, ends, ways)
    return tuple(rooms[1::2])


def value_of(net, through):
    """Return the VALUE of a THROUGH."""
    return _surplus(net, through)[1]


def is_through(net, thing):
    """Tell whether any value is a THROUGH."""
    arcs = net[1]
    if not isinstance(thing, tuple) or len(thing) != len(arcs):
        return False
    if not all([is_count(much) for much in thing]):
        return False
    if any([cap is not None and much > cap for (start, end, cap), much in zip(arcs, thing)]):
        return False
    return all([much == 0 for much in _surplus(net, thing)[2:]])


def source_side(net, through):
    """Return the ascending tuple of the numbers to which more could still go from 0."""
    levels = _levels(_rooms(net, through), _ends(net), _ways(net))
    return tuple([number for number, level in enumerate(levels) if level >= 0])


def _surplus(net, through):
    """For each number what comes in there, less what goes out."""
    many, arcs = net
    surplus = [0] * many
    for (start, end, cap), much in zip(arcs, through):
        surplus[start] -= much
        surplus[end] += much
    return surplus


def _rooms(net, through):
    """The rooms of all sides."""
    # No way leads from 0 to 1 without a bound, so all ways together add less than this.
    endless = 1 + sum([cap for start, end, cap in net[1] if cap is not None]) + sum(through)
    rooms = []
    for (start, end, cap), much in zip(net[1], through):
        rooms.append(endless if cap is None else cap - much)
        rooms.append(much)
    return rooms


def _ends(net):
    """For each side the number to which it leads."""
    ends = []
    for start, end, cap in net[1]:
        ends.append(end)
        ends.append(start)
    return ends


def _ways(net):
    """For each number the list of the sides that lead out of it."""
    many, arcs = net
    ways = [[] for _ in range(many)]
    for at, (start, end, cap) in enumerate(arcs):
        ways[start].append(2 * at)
        ways[end].append(2 * at + 1)
    return ways


def _levels(rooms, ends, ways):
    """For each number how many sides with room lead there from 0 at least, -1 if none do; no further than 1."""
    levels = [-1] * len(ways)
    levels[0] = 0
    front = [0]
    while front != [] and levels[1] < 0:
        reached = []
        for number in front:
            for side in ways[number]:
                if rooms[side] > 0 and levels[ends[side]] < 0:
                    levels[ends[side]] = levels[number] + 1
                    reached.append(ends[side])
        front = reached
    return levels


def _fill(rooms, ends, ways, levels):
    """Add along ways from 0 to 1 that climb by the levels, until none has room; rooms are changed."""
    tried = [0] * len(ways)
    trail = []
    here = 0
    while tried[0] < len(ways[0]):
        if here == 1:
            _add(rooms, trail)
            trail = []
            here = 0
        elif tried[here] == len(ways[here]):
            # Nothing leads on from here, so the side that led here is done with.
            here = ends[trail.pop() ^ 1]
            tried[here] += 1
        else:
            side = ways[here][tried[here]]
            if rooms[side] > 0 and levels[ends[side]] == levels[here] + 1:
                trail.append(side)
                here = ends[side]
            else:
                tried[here] += 1


def _add(rooms, trail):
    """Add as much as there is room for along a trail of sides."""
    much = min([rooms[side] for side in trail])
    for side in trail:
        rooms[side] -= much
        rooms[side ^ 1] += much
