"""Lines, whose least is the reach at each hour, and the stairs of its steps."""
from nightstairs.cuts import least_cut
from nightstairs.reach import couple_of, is_reach_paper, reach_paper
from nightstairs.yards import needs_of, with_needs


def lines(yard):
    """Return LINES of a YARD."""
    needs = needs_of(yard)
    first = tuple([name for name in needs if needs[name] > 0])
    # By then whatever rises with the hours says more than all needs.
    last = _least_lot(yard, sum(needs.values()) + 1, 1)
    lots = [first]
    if last != first:
        lots.extend(_lots_between(yard, first, last))
        lots.append(last)
    return tuple([_best_paper(yard, lot) for lot in lots])


def _best_paper(yard, lot):
    """The REACH PAPER of a LOT that says least."""
    return lot, least_cut(yard, lot)


def _least_lot(yard, times, parts):
    """The greatest LOT of needy CARS whose best REACH PAPER says least for times / parts hours."""
    needs = needs_of(yard)
    scaled = with_needs(yard, {name: parts * needs[name] for name in needs})
    return tuple([name for name in reach_paper(scaled, times)[0] if needs[name] > 0])


def _lots_between(yard, upper, lower):
    """The LOTS of the lines that say less than those of these two do where these meet."""
    base, rise = couple_of(yard, _best_paper(yard, upper))
    later_base, later_rise = couple_of(yard, _best_paper(yard, lower))
    lot = _least_lot(yard, later_base - base, rise - later_rise)
    # All least lots lie in the greatest one: it is the upper one exactly if nothing says less there.
    if lot == upper:
        return []
    return _lots_between(yard, upper, lot) + [lot] + _lots_between(yard, lot, lower)


def is_lines(yard, thing):
    """Tell whether any value is LINES of a YARD."""
    if not isinstance(thing, tuple) or thing == () or not all([is_reach_paper(yard, paper) for paper in thing]):
        return False
    if not all([_is_lesser_part(ahead[0], behind[0]) for ahead, behind in zip(thing, thing[1:])]):
        return False
    pairs = pairs_of(yard, thing)
    if not are_whole(pairs):
        return False
    return stairs_of(pairs) == stairs(yard)


def _is_lesser_part(lot, part):
    return len(part) < len(lot) and all([name in lot for name in part])


def are_whole(pairs):
    """Tell whether the least of the couples is 0 at h = 0, and does not rise for ever."""
    return any([base == 0 for base, rise in pairs]) and any([rise == 0 for base, rise in pairs])


def pairs_of(yard, papers):
    """Return the tuple of the couples (base, rise) of REACH PAPERS."""
    return tuple([couple_of(yard, paper) for paper in papers])


def stairs_of(pairs):
    """Return the STAIRS whose steps add up to the least of all base + h * rise."""
    runs = []
    h = 0
    base, rise = _flattest_least(pairs, 0)
    while rise > 0:
        turn = _first_less(pairs, base, rise)
        later_base, later_rise = _flattest_least(pairs, turn)
        put_run(runs, rise, turn - 1 - h)
        put_run(runs, later_base + turn * later_rise - base - (turn - 1) * rise, 1)
        h, base, rise = turn, later_base, later_rise
    return tuple(runs)


def _flattest_least(pairs, h):
    """The couple that says least for h; of several the one that rises least."""
    return min(pairs, key=lambda pair: (pair[0] + h * pair[1], pair[1]))


def _first_less(pairs, base, rise):
    """The least h at which a flatter couple says less than this one, which says least ahead of it."""
    return min([(other - base) // (rise - slope) + 1 for other, slope in pairs if slope < rise])


def put_run(runs, step, times):
    """Put a run of steps behind the others; the last one grows if its steps are the same."""
    if step == 0 or times == 0:
        return
    if runs != [] and runs[-1][0] == step:
        times += runs.pop()[1]
    runs.append((step, times))


def stairs(yard):
    """Return the STAIRS of a YARD."""
    return stairs_of(pairs_of(yard, lines(yard)))
