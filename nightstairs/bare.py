"""Bare yards: cars at the feeder alone, that have the same STAIRS as any yard."""
from nightstairs.errors import TooMany
from nightstairs.rows import ends_of, first_unlike
from nightstairs.stairs import lines, pairs_of, stairs_of


def turned(stairs):
    """Return the STAIRS turned over: STEP j is the number of steps that are at least j."""
    lower = [step for step, times in stairs[1:]] + [0]
    runs = [(end, step - less) for (step, times), end, less in zip(stairs, ends_of(stairs), lower)]
    return tuple(runs[::-1])


def bare_yard(stairs):
    """Return a YARD without cables, its CARS at the feeder, that has these STAIRS."""
    runs = turned(stairs)
    if len(runs) > 100:
        raise TooMany(100)
    cars = [("c" + str(at).zfill(2), "feed", times, step * times) for at, (step, times) in enumerate(runs)]
    return (), tuple(cars)


def are_alike(yard, other):
    """Tell whether two YARDS charge alike in all nights: whether they have the same STAIRS."""
    return _row_of(yard) == _row_of(other)


def parting_hours(yard, other):
    """Return the least number of hours of plenty in which two YARDS charge unlike, None if they are alike."""
    return first_unlike(_row_of(yard), _row_of(other))


def _row_of(yard):
    """The STAIRS of a YARD."""
    return stairs_of(pairs_of(yard, lines(yard)))
