"""[38], [9]: hard yards, against all HARD PLANS gone through."""
import itertools
import random
import unittest

from nightstairs.errors import TooMany
from nightstairs.nights import all_orders, could_by_all
from nightstairs.orders import order_for
from nightstairs.unlike import aim_of, best_aim, best_plan, good_begins, is_hard, is_hard_plan
from tests import brute_hard
from tests.brute import EMPTY, ODD, amounts_of, great_yard, spoiled

GREAT = 10 ** 12
STAND = ((), (("a", "feed", 1, 1), ("b", "feed", 1, 2)))
LEAVES = ("leaves", STAND, {"a": 2, "b": 4})
FIRSTS = ("firsts", STAND, {"a": 1, "b": 0})


def stand(*needs):
    """A yard of cars at the feeder that take all they need in an hour."""
    return (), tuple(("c%02d" % at, "feed", max(1, need), need) for at, need in enumerate(needs))


def some_cases(seed, many, hours=3):
    chance = random.Random(seed)
    for at in range(many):
        word = ("leaves", "firsts")[at % 2]
        hard = brute_hard.tight_hard(chance, word) if at % 3 else brute_hard.some_hard(chance, word, cars=3, knots=2, cables=3)
        yield hard, tuple(chance.randint(0, 4) for _ in range(chance.randint(1, hours)))


class IsHard(unittest.TestCase):
    def test_the_words(self):
        for word in ("leaf", "Leaves", "firsts ", "", None, 1, ("leaves",), ["leaves"]):
            self.assertIs(is_hard((word, STAND, {"a": 1, "b": 1})), False)
        self.assertIs(is_hard(("leaves", STAND, {"a": 1, "b": 1})), True)
        self.assertIs(is_hard(("firsts", STAND, {"b": 1, "a": 1})), True)

    def test_a_number_for_each_car(self):
        for numbers in ({"a": 1}, {}, {"a": 1, "b": 1, "c": 1}, {"a": 1, "c": 1}, {"a": 1, "b": None}, {"a": 1, "b": "1"}, {"a": True, "b": 1},
                        {"a": 1, "b": False}, {"a": 1, None: 1}, {"a": 1, ("b",): 1}, [("a", 1), ("b", 1)], (("a", 1), ("b", 1)), None, {"a", "b"}):
            for word in ("leaves", "firsts"):
                self.assertIs(is_hard((word, STAND, numbers)), False, numbers)

    def test_the_bounds_of_the_numbers(self):
        for number, leaves, firsts in ((-1, False, False), (0, False, True), (1, True, True), (2, True, True), (3, True, False), (10 ** 39, True, False)):
            self.assertIs(is_hard(("leaves", STAND, {"a": 1, "b": number})), leaves, number)
            self.assertIs(is_hard(("firsts", STAND, {"a": 0, "b": number})), firsts, number)

    def test_yards(self):
        for word in ("leaves", "firsts"):
            self.assertIs(is_hard((word, EMPTY, {})), True)
            self.assertIs(is_hard((word, EMPTY, {"a": 1})), False)
            self.assertIs(is_hard((word, (STAND[0], STAND[1][::-1]), {"a": 1, "b": 1})), False)
            self.assertIs(is_hard((word, STAND[1], {"a": 1, "b": 1})), False)

    def test_any_values(self):
        net = ("firsts", ((("feed", "k", 3),), (("a", "k", 1, 1), ("b", "feed", 1, 2))), {"a": 0, "b": 2})
        for hard in (LEAVES, FIRSTS, net):
            self.assertIs(is_hard(hard), True)
            for thing in spoiled(hard):
                self.assertIs(is_hard(thing), brute_hard.is_hard(thing), thing)
        for thing in ODD:
            self.assertIs(is_hard(thing), False)
            self.assertIs(is_hard(("leaves", thing, {})), thing == EMPTY)


class IsHardPlan(unittest.TestCase):
    def test_who_has_left_gets_nothing(self):
        self.assertIs(is_hard_plan(LEAVES, (1, 1), ({}, {"a": 1})), True)
        self.assertIs(is_hard_plan(LEAVES, (1, 1, 1), ({}, {}, {"a": 1})), False)
        self.assertIs(is_hard_plan(LEAVES, (1, 1, 1), ({"a": 1}, {}, {"b": 1})), True)
        self.assertIs(is_hard_plan(LEAVES, (0, 0, 0, 0, 1), ({}, {}, {}, {}, {"b": 1})), False)
        self.assertIs(is_hard_plan(LEAVES, (0, 0, 0, 1), ({}, {}, {}, {"b": 1})), True)
        self.assertIs(is_hard_plan(FIRSTS, (0, 0, 0, 0, 1), ({}, {}, {}, {}, {"b": 1})), True)

    def test_plans_all_the_same(self):
        for hard in (LEAVES, FIRSTS):
            for plan in (({"a": 1},), ({"a": 1}, {}, {}), ({"a": 1}, {"a": 1}), ({"a": 1, "b": 1}, {}), ({"b": 2}, {}), [{"a": 1}, {}], ({"a": 0}, {}),
                         ({"a": True}, {}), ({"c": 1}, {}), ({"a": 1}, None), None, ()):
                self.assertIs(is_hard_plan(hard, (1, 1), plan), False, plan)
            self.assertIs(is_hard_plan(hard, (1, 1), ({"a": 1}, {"b": 1})), True)
            self.assertEqual([is_hard_plan(hard, (), ()), is_hard_plan(hard, (), ({},)), is_hard_plan(hard, (), [])], [True, False, False])

    def test_all_plans_of_small_yards(self):
        chance = random.Random(1)
        for word in ("leaves", "firsts"):
            for _ in range(8):
                hard = brute_hard.some_hard(chance, word, great=2, cars=2, knots=1, cables=2)
                rows = [amounts_of(hard[1], row) for row in itertools.product(range(3), repeat=len(hard[1][1]))]
                for plan in itertools.product(rows, repeat=3):
                    self.assertIs(is_hard_plan(hard, (2, 1, 3), plan), brute_hard.is_hard_plan(hard, (2, 1, 3), plan))

    def test_any_values(self):
        plan = ({"a": 1}, {"b": 1}, {"b": 1})
        for hard in (LEAVES, FIRSTS):
            for thing in [plan, *spoiled(plan)]:
                self.assertIs(is_hard_plan(hard, (1, 2, 1), thing), brute_hard.is_hard_plan(hard, (1, 2, 1), thing), thing)


class Aims(unittest.TestCase):
    def test_aim_of_all_plans(self):
        for hard, night in some_cases(2, 30):
            for rows in brute_hard.hard_plans(hard, night):
                plan = tuple(amounts_of(hard[1], row) for row in rows)
                self.assertEqual(aim_of(hard, plan), brute_hard.aim(hard, rows))

    def test_more_than_comes_first(self):
        ranks = ("firsts", ((), (("a", "feed", 9, 9), ("b", "feed", 9, 9))), {"a": 3, "b": 0})
        self.assertEqual(aim_of(ranks, ({"a": 2, "b": 5}, {"a": 2})), (3, 9))
        self.assertEqual(aim_of(ranks, ({"a": 2}, {"b": 5})), (2, 7))
        self.assertEqual([aim_of(ranks, ()), aim_of(LEAVES, ()), aim_of(LEAVES, ({}, {"b": 1}))], [(0, 0), (0,), (1,)])

    def test_great_numbers(self):
        yard = great_yard(1)
        hard = ("firsts", yard, {car[0]: car[3] // 2 for car in yard[1]})
        order = order_for(yard, GREAT)
        self.assertEqual(aim_of(hard, (order,))[1], sum(order.values()))


class Best(unittest.TestCase):
    def test_against_all_hard_plans(self):
        for hard, night in some_cases(3, 120):
            aim, begins, _ = brute_hard.best(hard, night)
            self.assertEqual(best_aim(hard, night), aim, (hard, night))
            self.assertEqual(good_begins(hard, night), [amounts_of(hard[1], row) for row in begins], (hard, night))
            plan = best_plan(hard, night)
            self.assertTrue(brute_hard.is_hard_plan(hard, night, plan))
            self.assertEqual(aim_of(hard, plan), aim)

    def test_nights_of_four_hours(self):
        chance = random.Random(4)
        for at in range(16):
            hard = brute_hard.tight_hard(chance, ("leaves", "firsts")[at % 2])
            night = tuple(chance.randint(0, 2) for _ in range(4))
            aim, begins, _ = brute_hard.best(hard, night)
            self.assertEqual((best_aim(hard, night), aim_of(hard, best_plan(hard, night))), (aim, aim))
            self.assertEqual(good_begins(hard, night), [amounts_of(hard[1], row) for row in begins])

    def test_begins_stand_in_the_order_of_all_orders(self):
        for hard, night in some_cases(5, 40):
            orders = all_orders(hard[1], night[0])
            places = [orders.index(amounts) for amounts in good_begins(hard, night)]
            self.assertEqual(places, sorted(places))
            self.assertNotEqual(places, [])
            for amounts in good_begins(hard, night) + list(best_plan(hard, night)):
                self.assertEqual(list(amounts), sorted(amounts))

    def test_one_hour_and_none(self):
        for hard in (LEAVES, FIRSTS):
            self.assertEqual([best_plan(hard, ()), best_aim(hard, ())], [(), aim_of(hard, ())])
        self.assertEqual([best_aim(LEAVES, (1,)), best_aim(FIRSTS, (1,)), best_aim(FIRSTS, (0,)), best_aim(LEAVES, (9,))], [(1,), (1, 1), (0, 0), (2,)])
        self.assertEqual([good_begins(LEAVES, (1,)), good_begins(FIRSTS, (1,)), good_begins(LEAVES, (0,))], [[{"b": 1}, {"a": 1}], [{"a": 1}], [{}]])
        self.assertEqual([best_aim(("leaves", EMPTY, {}), (3, 4)), best_plan(("firsts", EMPTY, {}), (3, 4)), good_begins(("firsts", EMPTY, {}), (3,))],
                         [(0,), ({}, {}), [{}]])

    def test_hours_behind_which_all_have_left(self):
        self.assertEqual([best_aim(LEAVES, (0, 0, 0, 0, 9)), best_aim(LEAVES, (0, 0, 0, 9)), best_aim(LEAVES, (0, 0, 9)), best_aim(LEAVES, (0, 9))],
                         [(0,), (1,), (1,), (2,)])
        self.assertEqual(good_begins(LEAVES, (0, 0, 0, 0, 9)), [{}])

    def test_nothing_is_lost_where_there_is_plenty(self):
        self.assertEqual(good_begins(LEAVES, (2, 2, 2)), all_orders(STAND, 2))
        self.assertEqual(good_begins(LEAVES, (2, 2)), [{"b": 1}, {"a": 1, "b": 1}])

    def test_right_orders_begin_well_where_the_hard_yard_is_none(self):
        chance = random.Random(6)
        for _ in range(30):
            word, yard, numbers = brute_hard.some_hard(chance, "firsts", cars=3, knots=2, cables=3)
            night = tuple(chance.randint(0, 4) for _ in range(3))
            for hard in (("leaves", yard, {name: 2 for name in numbers}), ("firsts", yard, {name: 0 for name in numbers}),
                         ("firsts", yard, {car[0]: car[3] for car in yard[1]})):
                self.assertIn(order_for(yard, night[0]), good_begins(hard, night))
            self.assertEqual(best_aim(("leaves", yard, {name: 9 for name in numbers}), night), (could_by_all(yard, night)[-1],))

    def test_what_is_returned_is_new(self):
        plan = best_plan(LEAVES, (0, 0))
        plan[0]["a"] = 1
        self.assertEqual([plan[1], best_plan(LEAVES, (0, 0))], [{}, ({}, {})])
        begins = good_begins(LEAVES, (1,))
        begins[0]["x"] = 1
        self.assertEqual(good_begins(LEAVES, (1,)), [{"b": 1}, {"a": 1}])
        self.assertEqual(LEAVES, ("leaves", STAND, {"a": 2, "b": 4}))


class TooManyPlans(unittest.TestCase):
    def hard_ones(self, yard):
        return (("leaves", yard, {car[0]: 1 for car in yard[1]}), ("firsts", yard, {car[0]: 0 for car in yard[1]}))

    def test_too_many(self):
        for yard, night in ((stand(2000), (1,)), (stand(2, 666), (0, 0)), (stand(2000), (2000,)), (((), (("a", "feed", 1, 2000),)), (1,)),
                            (great_yard(1), (0,)), (great_yard(1), (GREAT, 0)), (stand(*[1] * 11), (0, 1))):
            with self.assertRaises(TooMany):
                could_by_all(yard, night)
            for hard in self.hard_ones(yard):
                for function in (best_aim, good_begins, best_plan):
                    with self.assertRaises(TooMany) as held:
                        function(hard, night)
                    self.assertEqual(held.exception.most, 2000)

    def test_not_at_2000(self):
        for hard in self.hard_ones(stand(1999)):
            self.assertEqual(good_begins(hard, (1999,)), [{"c00": 1999}])
            self.assertEqual(best_aim(hard, (1000, 998, 5))[-1], 1000 if hard[0] == "leaves" else 1999)
        for hard in self.hard_ones(stand(4, 4, 4, 15)):
            self.assertEqual(best_aim(hard, (13, 13, 13))[-1], 13 if hard[0] == "leaves" else 27)
        hard = ("firsts", stand(1999), {"c00": 1000})
        self.assertEqual(len(good_begins(hard, (1999, 1999))), 2000)
        self.assertEqual(best_aim(("firsts", stand(*[1] * 10, *[0] * 14), {"c%02d" % at: at % 2 * (at < 10) for at in range(24)}), (3,) * 48), (5, 10))

    def test_no_hours_whatever_the_yard(self):
        for hard in self.hard_ones(great_yard(1)):
            self.assertEqual([best_aim(hard, ()), best_plan(hard, ())], [aim_of(hard, ()), ()])

    def test_plans_are_told_whatever_the_yard(self):
        for hard in self.hard_ones(great_yard(1)):
            self.assertIs(is_hard_plan(hard, (0, 0), ({}, {})), True)

    def test_many_orders(self):
        yard = ((("feed", "k", 5), ("k", "m", 3)), tuple(("c%02d" % at, "km"[at % 2], 1, 1) for at in range(10)))
        hard = ("leaves", yard, {car[0]: 1 + at % 5 for at, car in enumerate(yard[1])})
        self.assertEqual(best_aim(hard, (1,) * 48), (5,))
        self.assertEqual(good_begins(hard, (2,) * 48), good_begins(hard, (2,) * 5))


if __name__ == "__main__":
    unittest.main()
