"""[26], [2]: orders and plans, and what can be charged, by going through all of them."""
import itertools
import random
import unittest

from nightstairs.errors import TooMany
from nightstairs.nights import all_orders, could_by_all, is_order, is_plan, led, sums_of
from tests import brute
from tests.brute import EMPTY, ODD, YARD, amounts_of, great_yard, less, some_night, some_yards, spoiled

SMALL = ((("a", "b", 1), ("feed", "a", 3)), (("bus", "a", 2, 5), ("van", "b", 1, 2)))
GREAT = 10 ** 12


def stand(*needs):
    """A yard of cars at the feeder that take all they need in an hour."""
    return (), tuple(("c%02d" % at, "feed", max(1, need), need) for at, need in enumerate(needs))


class IsOrder(unittest.TestCase):
    def test_all_amounts_of_small_yards(self):
        for yard in some_yards(1, 30, cars=3, knots=2, great=3):
            known, names = brute.order_rows(yard), [car[0] for car in yard[1]]
            for supply in (0, 1, 3, 20):
                orders = brute.orders(yard, supply, known)
                for row in itertools.product(range(5), repeat=len(names)):
                    amounts = {name: amount for name, amount in zip(names, row) if amount}
                    self.assertIs(is_order(yard, supply, amounts), row in orders, (yard, supply, amounts))

    def test_more_than_one_of_them_allows(self):
        self.assertIs(is_order(YARD, 5, {"bus": 3, "van": 2}), True)
        self.assertIs(is_order(YARD, 5, {"van": 2, "bus": 3}), True)
        self.assertIs(is_order(YARD, 4, {"bus": 3, "van": 2}), False)
        self.assertIs(is_order(YARD, 9, {"bus": 4, "van": 2}), False)
        self.assertIs(is_order(YARD, 9, {"bus": 5}), False)
        self.assertIs(is_order(YARD, 9, {"van": 3}), False)
        self.assertIs(is_order(((), (("bus", "feed", 9, 4),)), 9, {"bus": 5}), False)
        self.assertIs(is_order(((), (("bus", "feed", 9, 4),)), 9, {"bus": 4}), True)
        self.assertIs(is_order(((("feed", "k", 2),), (("bus", "k", 9, 9),)), 9, {"bus": 3}), False)
        self.assertIs(is_order(((), (("bus", "k", 9, 9),)), 9, {"bus": 1}), False)
        self.assertIs(is_order(YARD, 0, {}), True)
        self.assertIs(is_order(YARD, 0, {"bus": 1}), False)
        self.assertIs(is_order(EMPTY, 0, {}), True)

    def test_any_values(self):
        for thing in [*ODD, {"bus": True}, {"bus": 0}, {"bus": -1}, {"cart": 1}, {"bus": "1"}, [("bus", 1)], (("bus", 1),), {("bus",): 1}]:
            self.assertIs(is_order(YARD, 9, thing), thing == {}, thing)
        for supply in (2, 3):
            for thing in spoiled({"bus": 2, "van": 1}):
                self.assertIs(is_order(YARD, supply, thing), brute.is_order(YARD, supply, thing), thing)

    def test_great_yards(self):
        for seed in range(3):
            yard = great_yard(seed)
            for amounts in ({}, {yard[1][0][0]: 10 ** 13}, {car[0]: 1 for car in yard[1]}):
                self.assertIn(is_order(yard, GREAT, amounts), (True, False))
                self.assertIs(is_order(yard, 0, amounts), amounts == {})


class IsPlan(unittest.TestCase):
    def test_all_plans_of_small_yards(self):
        for yard in some_yards(2, 12, cars=2, knots=1, great=2):
            choices = [amounts_of(yard, row) for row in itertools.product(range(3), repeat=len(yard[1]))]
            for night in ((), (1,), (2, 0), (1, 3), (3, 3)):
                for plan in itertools.product(choices, repeat=len(night)):
                    self.assertIs(is_plan(yard, night, plan), brute.is_plan(yard, night, plan))

    def test_later_orders_are_of_the_yard_charged(self):
        plan = ({"bus": 4}, {"bus": 2}, {})
        self.assertIs(is_plan(YARD, (4, 4, 4), plan), True)
        self.assertIs(is_plan(YARD, (4, 4, 4), ({"bus": 4}, {"bus": 3}, {})), False)
        self.assertIs(is_plan(YARD, (4, 4, 4), ({"bus": 4}, {}, {"bus": 3})), False)
        self.assertIs(is_plan(YARD, (4, 1, 4), plan), False)
        for thing in (plan[:2], plan + ({},), list(plan), ({"bus": 4}, {"bus": 2}, None), plan[0], ()):
            self.assertIs(is_plan(YARD, (4, 4, 4), thing), False)
        self.assertEqual([is_plan(YARD, (), ()), is_plan(YARD, (), ({},)), is_plan(YARD, (), []), is_plan(YARD, (), {})], [True, False, False, False])

    def test_any_values(self):
        plan = ({"bus": 3, "van": 2}, {}, {"van": 1})
        for thing in [plan, *spoiled(plan)]:
            self.assertIs(is_plan(YARD, (5, 0, 1), thing), brute.is_plan(YARD, (5, 0, 1), thing), thing)


class Led(unittest.TestCase):
    def test_led_and_sums(self):
        plan = ({"bus": 1, "van": 1}, {}, {"bus": 2, "van": 1}, {"bus": 1})
        self.assertEqual([led(SMALL, plan)[1], sums_of(plan)], [(("bus", "a", 2, 1), ("van", "b", 1, 0)), (0, 2, 2, 5, 6)])
        self.assertEqual([led(SMALL, ()), sums_of(()), led(EMPTY, ({},)), sums_of(({},))], [SMALL, (0,), EMPTY, (0, 0)])
        self.assertEqual(plan[0], {"bus": 1, "van": 1})

    def test_hour_by_hour(self):
        chance = random.Random(3)
        for yard in some_yards(4, 20, cars=3, knots=2, great=3):
            left, plan, sums = yard, [], [0]
            for supply in (3, 0, 5):
                plan.append(amounts_of(left, chance.choice(brute.orders(left, supply))))
                left = less(left, plan[-1])
                sums.append(sums[-1] + sum(plan[-1].values()))
            self.assertIs(is_plan(yard, (3, 0, 5), tuple(plan)), True)
            self.assertEqual([led(yard, tuple(plan)), sums_of(tuple(plan))], [left, tuple(sums)])


class AllOrders(unittest.TestCase):
    def test_small_yards(self):
        for yard in some_yards(5, 40, cars=3, knots=2, great=3):
            for supply in (0, 1, 2, 4, 30):
                told = all_orders(yard, supply)
                self.assertEqual(told, [amounts_of(yard, row) for row in sorted(brute.orders(yard, supply))])
                self.assertTrue(all(list(amounts) == sorted(amounts) for amounts in told))

    def test_in_the_order_of_their_amounts(self):
        self.assertEqual(all_orders(((), (("a", "feed", 2, 1), ("b", "feed", 2, 2))), 2),
                         [{}, {"b": 1}, {"b": 2}, {"a": 1}, {"a": 1, "b": 1}])
        self.assertEqual([all_orders(EMPTY, 9), all_orders(great_yard(1), 0), all_orders(((), (("a", "far", 2, 1),)), 9)], [[{}], [{}], [{}]])

    def test_new_dicts_each_time(self):
        all_orders(SMALL, 1)[0]["bus"] = 9
        self.assertEqual(all_orders(SMALL, 1), [{}, {"van": 1}, {"bus": 1}])

    def test_too_many(self):
        self.assertEqual([len(all_orders(stand(1999), 1999)), len(all_orders(stand(GREAT), 1999))], [2000, 2000])
        self.assertEqual(len(all_orders(((), (("a", "feed", 1999, GREAT),)), GREAT)), 2000)
        self.assertEqual(len(all_orders(stand(4, 4, 4, 15), 99)), 2000)
        self.assertEqual(len(all_orders(stand(*[1] * 10, *[0] * 14), 1)), 11)
        self.assertEqual(len(all_orders(((("feed", "k", 1),), (("a", "k", GREAT, GREAT),)), 1999)), 2)
        for yard, supply in ((stand(2000), 2000), (stand(GREAT), 2000), (stand(2, 666), 2000), (stand(*[1] * 11), 1), (great_yard(1), GREAT),
                             (((), (("a", "k", GREAT, GREAT),)), 2000), (((), (("a", "feed", 2000, GREAT),)), GREAT)):
            with self.assertRaises(TooMany) as held:
                all_orders(yard, supply)
            self.assertEqual(held.exception.most, 2000)


class CouldByAll(unittest.TestCase):
    def test_small_yards(self):
        chance = random.Random(6)
        for yard in some_yards(7, 60, cars=3, knots=2, great=3):
            night = some_night(chance, most=8)
            self.assertEqual(could_by_all(yard, night), brute.could(yard, night))

    def test_all_plans_one_by_one(self):
        for yard in some_yards(8, 25, cars=2, knots=2, great=2):
            for night in ((1, 3), (3, 1, 2)):
                rows = [((), 0, yard)]
                most = [0]
                for supply in night:
                    rows = [(plan + (row,), total + sum(row), less(left, amounts_of(left, row)))
                            for plan, total, left in rows for row in brute.orders(left, supply)]
                    most.append(max(total for _, total, _ in rows))
                self.assertEqual(could_by_all(yard, night), tuple(most))

    def test_no_hours_whatever_the_yard(self):
        for yard in (EMPTY, YARD, great_yard(1), stand(*[GREAT] * 24)):
            self.assertEqual(could_by_all(yard, ()), (0,))

    def test_edges(self):
        self.assertEqual([could_by_all(EMPTY, (3, 4)), could_by_all(SMALL, (0,)), could_by_all(SMALL, (99,) * 4)], [(0, 0, 0), (0, 0), (0, 3, 6, 7, 7)])
        self.assertEqual(could_by_all(SMALL, (0,) * 47 + (2,)), (0,) * 48 + (2,))
        split = ((), (("a", "feed", 1, 2), ("b", "feed", 1, 1)))
        self.assertEqual([could_by_all(split, (1, 2, 2)), could_by_all(split, (2, 1, 1))], [(0, 1, 3, 3), (0, 2, 3, 3)])

    def test_too_many(self):
        self.assertEqual(could_by_all(stand(1999), (1000, 998, 5)), (0, 1000, 1998, 1999))
        self.assertEqual(could_by_all(stand(4, 4, 4, 15), (13, 13, 13)), (0, 13, 26, 27))
        for yard, night in ((stand(2000), (1,)), (stand(2, 666), (0, 0)), (stand(2000), (2000,)), (((), (("a", "feed", 1, 2000),)), (1,)),
                            (great_yard(1), (0,)), (great_yard(1), (GREAT, 0)), (stand(*[1] * 11), (0, 1))):
            with self.assertRaises(TooMany) as held:
                could_by_all(yard, night)
            self.assertEqual(held.exception.most, 2000)


if __name__ == "__main__":
    unittest.main()
