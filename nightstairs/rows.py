"""STAIRS by themselves, whatever yard has them: rows of steps."""
from nightstairs.stairs import put_run


def reach_in(stairs, h):
    """Return the sum of the first h steps."""
    total = 0
    for step, times in stairs:
        hours = min(times, h)
        total += step * hours
        h -= hours
    return total


def step_in(stairs, h):
    """Return STEP h, h from 1 on."""
    for step, times in stairs:
        if h <= times:
            return step
        h -= times
    return 0


def whole_of(stairs):
    """Return the sum of all steps."""
    return sum([step * times for step, times in stairs])


def hours_of(stairs):
    """Return the number of steps above 0."""
    return sum([times for step, times in stairs])


def ends_of(stairs):
    """Return the ascending tuple of the hours with which the runs end."""
    ends = []
    hour = 0
    for step, times in stairs:
        hour += times
        ends.append(hour)
    return tuple(ends)


def added(rows):
    """Return the STAIRS whose REACH is the sum of the REACHES of these, for each h."""
    falls = _falls(rows)
    step = sum(falls.values())
    runs = []
    hour = 0
    for end in sorted(falls):
        runs.append((step, end - hour))
        step -= falls[end]
        hour = end
    return tuple(runs)


def _falls(rows):
    """The dict from hours to how much less than their steps all next steps are together, where it is something."""
    falls = {}
    for stairs in rows:
        nexts = [step for step, times in stairs[1:]] + [0]
        for (step, times), end, later in zip(stairs, ends_of(stairs), nexts):
            falls[end] = falls.get(end, 0) + step - later
    return falls


def capped(stairs, cap):
    """Return the STAIRS whose REACH is for each h the lesser of this one and of h * cap."""
    runs = []
    # What steps above the cap lose is charged by the later steps that have room below it, also by those of 0.
    lost = 0
    for step, times in stairs + ((0, whole_of(stairs) + 1),):
        filled = times if step >= cap else min(times, lost // (cap - step))
        put_run(runs, cap, filled)
        lost += filled * (step - cap)
        if filled < times:
            put_run(runs, step + lost, 1)
            put_run(runs, step, times - filled - 1)
            lost = 0
    return tuple(runs)


def first_unlike(one, other):
    """Return the least h at which the REACHES of two STAIRS differ, None if they are the same."""
    hour = 0
    for (step, times), (other_step, other_times) in zip(one, other):
        if step != other_step:
            return hour + 1
        hour += min(times, other_times)
        if times != other_times:
            return hour + 1
    return None if len(one) == len(other) else hour + 1


def taken(stairs, x):
    """Return the STAIRS behind a RIGHT ORDER with the SUM x."""
    if x == 0:
        return stairs
    many = len([step for step, times in stairs if step >= x])
    step, times = stairs[many - 1]
    later, more = stairs[many] if many < len(stairs) else (0, 1)
    runs = list(stairs[:many - 1])
    put_run(runs, step, times - 1)
    # The last step that is at least x, and the one behind it, become one that is less by x.
    put_run(runs, step + later - x, 1)
    put_run(runs, later, more - 1)
    return tuple(runs) + stairs[many + 1:]


def behind(stairs, night):
    """Return the STAIRS behind all hours of a NIGHT."""
    for supply in night:
        stairs = taken(stairs, first_taken(stairs, supply))
    return stairs


def first_taken(stairs, supply):
    """Return what a full hour takes: the lesser of the SUPPLY and the first step."""
    return min(supply, step_in(stairs, 1))


def could_in(stairs, night):
    """Return the list of the sums of what is taken in the first m hours, for m from 0 to the length of the NIGHT."""
    sums = [0]
    for supply in night:
        x = first_taken(stairs, supply)
        sums.append(sums[-1] + x)
        stairs = taken(stairs, x)
    return sums
