"""[25], [8]: rows turned over, bare yards, and which yards are alike."""
import random
import unittest

from nightstairs.bare import are_alike, bare_yard, parting_hours, turned
from nightstairs.errors import TooMany
from nightstairs.forms import is_stairs, is_yard
from nightstairs.stairs import stairs
from tests import brute
from tests.brute import EMPTY, YARD, great_stairs, great_yard, reach_in, some_stairs, some_yards, steps_in

GREAT = 10 ** 15
LATE = ((), (("bus", "feed", 5, 3 * 10 ** 11), ("van", "feed", 2, 10 ** 11)))


def falling(runs):
    """STAIRS of so many runs, of one step each."""
    return tuple((step, 1) for step in range(runs, 0, -1))


class Turned(unittest.TestCase):
    def test_small_rows(self):
        chance = random.Random(1)
        for _ in range(200):
            row = some_stairs(chance)
            told, steps = turned(row), steps_in(row, 20)
            self.assertTrue(is_stairs(told))
            self.assertEqual(steps_in(told, 12), [len([step for step in steps if step >= j]) for j in range(1, 13)])
            self.assertEqual(turned(told), row)

    def test_edges(self):
        self.assertEqual([turned(()), turned(((1, 1),)), turned(((5, 2),)), turned(((5, 2), (4, 3)))], [(), ((1, 1),), ((2, 5),), ((5, 4), (2, 1))])
        self.assertEqual([turned(((7, GREAT),)), turned(((GREAT, 7),))], [((GREAT, 7),), ((7, GREAT),)])
        chance = random.Random(2)
        for _ in range(30):
            row = great_stairs(chance)
            self.assertTrue(is_stairs(turned(row)))
            self.assertEqual(turned(turned(row)), row)


class BareYard(unittest.TestCase):
    def test_it_has_these_stairs(self):
        chance = random.Random(3)
        rows = [(), ((1, 1),), ((3, GREAT),), falling(24)] + [some_stairs(chance) for _ in range(60)] + [great_stairs(chance) for _ in range(5)]
        for row in rows:
            yard = bare_yard(row)
            self.assertTrue(is_yard(yard))
            self.assertEqual((yard[0], stairs(yard)), ((), row))
            cars = tuple(("c%02d" % at, "feed", times, step * times) for at, (step, times) in enumerate(turned(row)))
            self.assertEqual(yard[1], cars)

    def test_small_yards(self):
        self.assertEqual([bare_yard(()), bare_yard(((4, 3),))], [EMPTY, ((), (("c00", "feed", 4, 12),))])
        for yard in some_yards(4, 30, cars=3, knots=2, great=3):
            self.assertEqual(brute.stairs(bare_yard(brute.stairs(yard))), brute.stairs(yard))

    def test_a_hundred_cars(self):
        yard = bare_yard(falling(100))
        self.assertEqual([len(yard[1]), yard[1][0], yard[1][10], yard[1][-1]],
                         [100, ("c00", "feed", 1, 100), ("c10", "feed", 1, 90), ("c99", "feed", 1, 1)])
        for runs in (101, 102, 150):
            with self.assertRaises(TooMany) as held:
                bare_yard(falling(runs))
            self.assertEqual(held.exception.most, 100)


class Alike(unittest.TestCase):
    def check(self, yard, other):
        one, others = brute.stairs(yard), brute.stairs(other)
        hours = [h for h in range(60) if reach_in(one, h) != reach_in(others, h)]
        self.assertIs(are_alike(yard, other), not hours)
        self.assertEqual(parting_hours(yard, other), hours[0] if hours else None)

    def test_small_yards(self):
        yards = some_yards(5, 40, cars=2, knots=2, great=2)
        for at, yard in enumerate(yards):
            for other in yards[at:at + 6]:
                self.check(yard, other)
                self.check(other, yard)

    def test_alike_and_not_the_same(self):
        for yard in [YARD, EMPTY, *some_yards(6, 10), *[great_yard(seed) for seed in range(3)]]:
            other = bare_yard(stairs(yard))
            self.assertIs(are_alike(yard, other), True)
            self.assertIsNone(parting_hours(other, yard))
        for other in (((), (("bus", "feed", 9, 0),)), ((), (("bus", "far", 9, 7),)), ((("feed", "k", 5),), ())):
            self.assertEqual([are_alike(EMPTY, other), parting_hours(EMPTY, other)], [True, None])

    def test_parting_at_a_late_hour(self):
        self.assertEqual([parting_hours(YARD, ((), (("one", "feed", 5, many),))) for many in (4, 5, 9, 10, 11, 12)], [1, 2, 2, 3, None, 3])
        hour = 5 * 10 ** 10
        for more, parting in ((0, None), (1, hour + 10 ** 10 + 1), (-1, hour + 10 ** 10), (3 - 10 ** 9, hour + 10 ** 10 - 2 * 10 ** 8 + 1)):
            other = ((), (("bus", "feed", 5, 3 * 10 ** 11 + more), ("van", "feed", 2, 10 ** 11)))
            self.assertEqual([are_alike(LATE, other), parting_hours(LATE, other)], [more == 0, parting])
        slow = ((), (("bus", "feed", 5, 3 * 10 ** 11), ("van", "feed", 2, 10 ** 11 - 1)))
        self.assertEqual([are_alike(LATE, slow), parting_hours(slow, LATE)], [False, hour])

    def test_alike_in_all_nights_or_not(self):
        chance = random.Random(7)
        yards = some_yards(8, 12, cars=2, knots=1, great=2)
        for yard in yards:
            for other in yards:
                nights = [brute.some_night(chance, hours=4, most=4) for _ in range(5)]
                same = all(brute.could(yard, night) == brute.could(other, night) for night in nights)
                hours = parting_hours(yard, other)
                if are_alike(yard, other):
                    self.assertTrue(same)
                else:
                    plenty = (10,) * hours
                    self.assertNotEqual(brute.could(yard, plenty), brute.could(other, plenty))
                    self.assertEqual(brute.could(yard, plenty[1:]), brute.could(other, plenty[1:]))


if __name__ == "__main__":
    unittest.main()
