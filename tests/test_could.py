"""[27], [6]: what could be charged by each hour."""
import random
import unittest

from nightstairs.could import could, could_by, could_plan
from nightstairs.nights import could_by_all, is_plan
from nightstairs.reach import reach
from nightstairs.stairs import stairs
from tests import brute
from tests.brute import EMPTY, YARD, great_stairs, great_yard, reach_in, some_night, some_stairs, some_yards

GREAT = 10 ** 12
SMALL = ((("a", "b", 1), ("feed", "a", 3)), (("bus", "a", 2, 5), ("van", "b", 1, 2)))


def by_formula(row, night):
    """The least of all sums that the document names, for each m."""
    return tuple(min(reach_in(row, h) + sum(sorted(night[:m])[:m - h]) for h in range(m + 1)) for m in range(len(night) + 1))


def great_night(chance, hours=48):
    return tuple(chance.choice([0, chance.randint(0, GREAT - 1), chance.randint(0, 10 ** chance.randint(1, 12) - 1)]) for _ in range(hours))


class CouldBy(unittest.TestCase):
    def test_by_the_formula(self):
        chance = random.Random(1)
        for _ in range(200):
            row, night = some_stairs(chance), some_night(chance, hours=7, most=12)
            self.assertEqual(could_by(row, night), by_formula(row, night))
        for _ in range(10):
            row, night = great_stairs(chance), great_night(chance)
            self.assertEqual(could_by(row, night), by_formula(row, night))

    def test_edges(self):
        row = ((3, 2), (1, 1))
        self.assertEqual([could_by(row, ()), could_by((), ()), could_by((), (1, 2)), could_by(row, (0, 0))], [(0,), (0,), (0, 0, 0), (0, 0, 0)])
        self.assertEqual([could_by(row, (9, 9, 9, 9)), could_by(row, (1, 9, 9, 9)), could_by(row, (0, 9, 9, 9))],
                         [(0, 3, 6, 7, 7), (0, 1, 4, 7, 7), (0, 0, 3, 6, 7)])
        self.assertEqual(could_by(((2, 10 ** 15),), (1, 5, 0, 2)), (0, 1, 3, 3, 5))


class Could(unittest.TestCase):
    def test_against_all_plans(self):
        chance = random.Random(2)
        for yard in some_yards(3, 80, cars=3, knots=3, great=3):
            rows = brute.order_rows(yard)
            for _ in range(3):
                night = some_night(chance, most=9)
                self.assertEqual(could(yard, night), brute.could(yard, night, rows))

    def test_against_what_the_program_goes_through(self):
        chance = random.Random(4)
        for yard in some_yards(5, 60, cars=4, cables=6, knots=3, great=2):
            night = some_night(chance, hours=6, most=5)
            if max((0,) + night) * len(yard[1]) < 20:
                self.assertEqual(could(yard, night), could_by_all(yard, night))

    def test_hours_of_plenty_are_the_reach(self):
        for yard in some_yards(6, 20) + [great_yard(1)]:
            self.assertEqual(could(yard, (10 ** 14,) * 6), tuple(reach(yard, h) for h in range(7)))

    def test_edges(self):
        self.assertEqual([could(SMALL, ()), could(EMPTY, ()), could(EMPTY, (3,)), could(SMALL, (0, 0))], [(0,), (0,), (0, 0), (0, 0, 0)])
        self.assertEqual([could(SMALL, (2, 5, 1)), could(SMALL, (1, 2, 5)), could(SMALL, (9,) * 4)], [(0, 2, 5, 6), (0, 1, 3, 6), (0, 3, 6, 7, 7)])

    def test_the_order_of_the_hours_does_not_matter(self):
        chance = random.Random(7)
        for yard in some_yards(8, 30):
            night = some_night(chance, hours=6, most=9)
            self.assertEqual(could(yard, tuple(sorted(night)))[-1], could(yard, night)[-1])

    def test_nights_of_48_hours(self):
        chance = random.Random(9)
        for seed in range(5):
            yard, night = great_yard(seed), great_night(chance)
            self.assertEqual(could(yard, night), by_formula(stairs(yard), night))


class CouldPlan(unittest.TestCase):
    def check(self, yard, night):
        plan = could_plan(yard, night)
        self.assertIs(type(plan), tuple)
        self.assertIs(is_plan(yard, night, plan), True)
        self.assertEqual(sum(sum(amounts.values()) for amounts in plan), could(yard, night)[-1])
        self.assertTrue(all(list(amounts) == sorted(amounts) for amounts in plan))
        self.assertEqual(could_plan(yard, night), plan)
        return plan

    def test_small_yards(self):
        chance = random.Random(10)
        for yard in some_yards(11, 80, cars=3, knots=3, great=3):
            night = some_night(chance, hours=5, most=9)
            plan = self.check(yard, night)
            self.assertTrue(brute.is_plan(yard, night, plan))
            self.assertEqual(sum(sum(amounts.values()) for amounts in plan), brute.could(yard, night)[-1])

    def test_edges(self):
        self.assertEqual([could_plan(SMALL, ()), could_plan(EMPTY, (1, 2)), could_plan(YARD, (0, 0))], [(), ({}, {}), ({}, {})])
        for night in ((5, 5, 5), (0, 11), (11, 0, 1), (9,) * 12):
            self.check(YARD, night)

    def test_great_yards(self):
        chance = random.Random(12)
        for seed in range(3):
            self.check(great_yard(seed), great_night(chance))

    def test_what_is_returned_is_new(self):
        could_plan(YARD, (5, 5))[0].clear()
        plan = self.check(YARD, (0, 0))
        self.assertIsNot(plan[0], plan[1])
        self.check(YARD, (5, 5))


if __name__ == "__main__":
    unittest.main()
