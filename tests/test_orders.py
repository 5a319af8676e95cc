"""[31], [7], [8]: right orders."""
import itertools
import random
import unittest

from nightstairs.could import could
from nightstairs.forms import is_amounts
from nightstairs.keeping import is_right
from nightstairs.nights import is_plan, sums_of
from nightstairs.orders import order_by, order_for, orders_for
from nightstairs.rows import behind
from nightstairs.shares import greatest_share
from nightstairs.stairs import stairs
from nightstairs.yards import cars_of
from tests import brute
from tests.brute import EMPTY, YARD, amounts_of, full_yard, great_yard, less, roomy_yards, row_of, some_night, some_yards

GREAT = 10 ** 12
BARE = ((("feed", "k", 5),), ())
APART = ((), (("bus", "far", 2, 5), ("van", "feed", 2, 0)))
SUPPLIES = (0, 1, 2, 3, 5, 8, 10 ** 12)


def sum_in(amounts):
    return sum(amounts.values())


class OrderFor(unittest.TestCase):
    def test_small_yards(self):
        for yard in some_yards(1, 60, cars=3, knots=3, great=3) + some_yards(2, 20, cars=4, cables=6, knots=3, great=2):
            known = brute.limits(yard)
            rows = brute.order_rows(yard, known)
            for supply in SUPPLIES:
                amounts = order_for(yard, supply)
                self.assertTrue(is_amounts(yard, amounts))
                self.assertIn(row_of(yard, amounts), brute.right_orders(yard, supply, known, rows), (yard, supply))
                self.assertEqual(list(amounts), sorted(amounts))

    def test_edges(self):
        for supply in SUPPLIES:
            self.assertEqual([order_for(yard, supply) for yard in (EMPTY, BARE, APART)], [{}, {}, {}])
        self.assertEqual([order_for(YARD, 0), sum_in(order_for(YARD, GREAT)), sum_in(order_for(YARD, 4))], [{}, 5, 4])
        self.assertEqual(order_for(((), (("bus", "feed", 1, 2), ("van", "feed", 9, 1))), 1), {"bus": 1})

    def test_new_each_time_and_always_the_same(self):
        for yard in some_yards(3, 20):
            amounts = order_for(yard, 3)
            told = dict(amounts)
            amounts["zz"] = 1
            order_for(YARD, 2)
            self.assertEqual(order_for(yard, 3), told)


class OrderBy(unittest.TestCase):
    def test_all_orders_of_the_names(self):
        for yard in some_yards(4, 40, cars=3, knots=3, great=3) + roomy_yards(13, 12):
            names = [car[0] for car in yard[1]]
            known = brute.limits(yard)
            rows = brute.order_rows(yard, known)
            for supply in (0, 1, 2, 3, 5, 99):
                right = brute.right_orders(yard, supply, known, rows)
                for some in itertools.permutations(names):
                    best = max(right, key=lambda row: [row[names.index(name)] for name in some])
                    told = order_by(yard, supply, some)
                    self.assertEqual(told, amounts_of(yard, best), (yard, supply, some))
                    self.assertEqual(list(told), sorted(told))

    def test_four_cars(self):
        chance = random.Random(5)
        for yard in some_yards(6, 25, cars=4, cables=7, knots=4, great=2):
            names = [car[0] for car in yard[1]]
            right = brute.right_orders(yard, 3)
            for _ in range(3):
                some = tuple(chance.sample(names, len(names)))
                best = max(right, key=lambda row: [row[names.index(name)] for name in some])
                self.assertEqual(order_by(yard, 3, some), amounts_of(yard, best))

    def test_edges(self):
        self.assertEqual([order_by(EMPTY, 3, ()), order_by(BARE, 3, ()), order_by(APART, 3, ("van", "bus")), order_by(YARD, 0, ("van", "bus"))],
                         [{}, {}, {}, {}])
        self.assertEqual([order_by(YARD, 99, names) for names in (("bus", "van"), ("van", "bus"))], [{"bus": 3, "van": 2}] * 2)
        plain = ((), (("a", "feed", 3, 3), ("b", "feed", 3, 3)))
        self.assertEqual([order_by(plain, 4, ("a", "b")), order_by(plain, 4, ("b", "a"))], [{"a": 3, "b": 1}, {"a": 1, "b": 3}])
        self.assertEqual(order_by(plain, 2, ("b", "a")), {"b": 2})

    def test_great_yards(self):
        chance = random.Random(7)
        for yard in (full_yard(1), full_yard(2), great_yard(1)):
            supply = stairs(yard)[0][0] * 2 // 3
            names = tuple(chance.sample(cars_of(yard), 24))
            told = order_by(yard, supply, names)
            self.assertIs(is_right(yard, supply, told), True)
            self.assertEqual(told.get(names[0], 0), greatest_share(yard, supply, names[0]))


class OrdersFor(unittest.TestCase):
    def check(self, yard, night):
        plan = orders_for(yard, night)
        self.assertIs(type(plan), tuple)
        self.assertIs(is_plan(yard, night, plan), True)
        self.assertEqual(sums_of(plan), could(yard, night))
        return plan

    def test_small_yards(self):
        chance = random.Random(8)
        for yard in some_yards(9, 60, cars=3, knots=3, great=3):
            night = some_night(chance, hours=5, most=8)
            plan = self.check(yard, night)
            self.assertEqual(sums_of(plan), brute.could(yard, night))
            left = yard
            for supply, amounts in zip(night, plan):
                self.assertEqual(amounts, order_for(left, supply))
                self.assertIsNone(brute.short_hours(left, supply, amounts))
                left = less(left, amounts)
            self.assertEqual(stairs(left), behind(stairs(yard), night))

    def test_any_right_orders_do(self):
        chance = random.Random(10)
        for yard in some_yards(11, 25, cars=3, knots=2, great=3):
            night = some_night(chance, hours=4, most=6)
            left, sums = yard, [0]
            for supply in night:
                amounts = amounts_of(left, chance.choice(brute.right_orders(left, supply)))
                left = less(left, amounts)
                sums.append(sums[-1] + sum_in(amounts))
            self.assertEqual(tuple(sums), could(yard, night))
            self.assertEqual(stairs(left), behind(stairs(yard), night))

    def test_edges(self):
        self.assertEqual([orders_for(YARD, ()), orders_for(EMPTY, (3, 0)), orders_for(APART, (3,)), orders_for(YARD, (0, 0))], [(), ({}, {}), ({},), ({}, {})])
        self.check(YARD, (99, 99, 99, 99))
        plan = orders_for(YARD, (0, 0))
        self.assertIsNot(plan[0], plan[1])

    def test_nights_of_48_hours(self):
        chance = random.Random(12)
        for yard in (great_yard(1), full_yard(1), full_yard(3)):
            first = stairs(yard)[0][0]
            self.check(yard, tuple(chance.choice([0, chance.randint(0, first), chance.randint(0, 2 * first)]) for _ in range(48)))


if __name__ == "__main__":
    unittest.main()
