"""Yards in parts for the tests, and what the document says of them, told another way than the program does."""
import itertools
import random

from nightstairs.forms import is_name, is_yard
from tests import brute

SHED = ("shed", 2, ((), (("van", "feed", 2, 3),)), ())
HALL = ("hall", 5, ((("feed", "yard", 4),), (("bus", "yard", 3, 4),)), (SHED,))


def all_below(part):
    return [part] + [one for below in part[3] for one in all_below(below)]


def names_in(part):
    return [one[0] for one in all_below(part)]


def is_part(thing):
    def formed(row):
        if type(row) is not tuple or len(row) != 4 or type(row[1]) is not int or row[1] < 0:
            return False
        if not is_name(row[0]) or not is_yard(row[2]) or type(row[3]) is not tuple or not all(formed(below) for below in row[3]):
            return False
        return list(row[3]) == sorted(row[3])
    if not formed(thing):
        return False
    names = names_in(thing)
    cars = [car[0] for one in all_below(thing) for car in one[2][1]]
    return len(names) == len(set(names)) and len(cars) == len(set(cars))


def some_part(chance, parts=4, cars=3, knots=2, great=3):
    """A PART with so many PARTS in it at most, of small yards."""
    names = chance.sample(["hall", "shed", "a", "b2", "lot", "east", "west", "z"], chance.randint(1, parts))
    below = {name: [] for name in names}
    for at in range(1, len(names)):
        below[names[chance.randrange(at)]].append(names[at])
    letters = iter("abcdefghijklmnopqrstuvwxyz")

    def made(name):
        cables, rows = brute.some_yard(chance, cars=cars, cables=knots + 1, knots=knots, great=great)
        rows = tuple(sorted((next(letters),) + car[1:] for car in rows))
        return name, chance.randint(0, 2 * great), (cables, rows), tuple(made(one) for one in sorted(below[name]))
    return made(names[0])


def some_parts(seed, many, **sizes):
    chance = random.Random(seed)
    return [some_part(chance, **sizes) for _ in range(many)]


def flat(part):
    """The one YARD, its knots by other names than the document's."""
    cables, cars = [("feed", "top", part[1])], []

    def put(one, here):
        def knot(word):
            return here if word == "feed" else here + "z" + word
        cables.extend((knot(start), knot(end), cap) for start, end, cap in one[2][0])
        cars.extend((car[0], knot(car[1])) + car[2:] for car in one[2][1])
        for at, below in enumerate(one[3]):
            cables.append((here, here + "q%d" % at, below[1]))
            put(below, here + "q%d" % at)
    put(part, "top")
    return tuple(sorted(cables)), tuple(sorted(cars))


def steps_of(rows, many):
    return [[brute.steps_in(row, many)[at] for row in rows] for at in range(many)]


def behind(row, x):
    """The STAIRS behind a full hour that takes x, by REACHES."""
    many = sum(times for _, times in row) + 2
    reaches = [min(brute.reach_in(row, h), brute.reach_in(row, h + 1) - x) for h in range(many)]
    return brute.steps_to_stairs(later - ahead for ahead, later in zip(reaches, reaches[1:]))


def added(rows):
    many = max([sum(times for _, times in row) for row in rows] + [0]) + 1
    return brute.steps_to_stairs(sum(steps) for steps in steps_of(rows, many))


def capped(row, cap):
    many = sum(step * times for step, times in row) + 2
    reaches = [min(brute.reach_in(row, h), h * cap) for h in range(many)]
    return brute.steps_to_stairs(later - ahead for ahead, later in zip(reaches, reaches[1:]))


def all_shares(rows, x):
    """All tuples of shares behind which nothing is lost, ascending, by going through all."""
    told = behind(added(rows), x)
    firsts = [row[0][0] if row else 0 for row in rows]
    found = []
    for shares in itertools.product(*[range(first + 1) for first in firsts]):
        if sum(shares) == x and added([behind(row, share) for row, share in zip(rows, shares)]) == told:
            found.append(shares)
    return found


class Post:
    """An hour of LETTERS, each PART for itself, told depth first."""

    def __init__(self, part, supply, lost):
        self.lost = lost
        self.rows, self.gives, self.shares, self.heard = {}, {}, {}, []
        self.came = {}
        row = self.write_row(part)
        self.deal(part, min(supply, row[0][0] if row else 0))
        self.hear(part)

    def write_row(self, one):
        came = [brute.stairs(one[2])]
        for below in one[3]:
            self.rows[below[0]] = self.write_row(below)
            came.append(() if ("row", below[0]) in self.lost else self.rows[below[0]])
        self.came[one[0]] = came
        return capped(added(came), one[1])

    def deal(self, one, much):
        # Of all shares behind which nothing is lost the last ones give the first ones the most.
        shares = all_shares(self.came[one[0]], much)[-1]
        self.shares[one[0]] = shares[0]
        for below, share in zip(one[3], shares[1:]):
            if ("row", below[0]) not in self.lost:
                self.gives[below[0]] = share
                if ("give", below[0]) not in self.lost:
                    self.deal(below, share)

    def hear(self, one):
        self.heard.append(one[0])
        for below in one[3]:
            if ("row", below[0]) not in self.lost:
                self.hear(below)


def less(part, amounts):
    name, cap, yard, parts = part
    own = {car[0]: amounts[car[0]] for car in yard[1] if car[0] in amounts}
    return name, cap, brute.less(yard, own), tuple(less(below, amounts) for below in parts)
