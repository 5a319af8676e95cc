"""[17]: flows of copies."""
import copy
import itertools
import random
import unittest

from nightstairs.flows import carried, carries, most_flow, most_sum
from nightstairs.forms import is_amounts, is_copies, is_flow
from tests import brute
from tests.brute import EMPTY, YARD, great_yard, some_copies, some_yards


class MostFlow(unittest.TestCase):
    def check_rows(self, yard, copies):
        """What most_flow returns is carried, within all bounds and needs, and adds up to its sum."""
        most, rows = most_flow(yard, copies)
        self.assertEqual((type(rows), len(rows)), (tuple, len(copies)))
        given = {}
        for (times, bound), (amounts, flow) in zip(copies, rows):
            self.assertTrue(is_amounts(yard, amounts) and is_flow(yard, flow))
            self.assertEqual((list(amounts), list(flow)), (sorted(amounts), sorted(flow)))
            self.assertTrue(brute.carries(yard, times, amounts, flow))
            self.assertIs(carries(yard, times, amounts, flow), True)
            self.assertTrue(bound is None or sum(amounts.values()) <= bound)
            for name, amount in amounts.items():
                given[name] = given.get(name, 0) + amount
        for name, _, _, need in yard[1]:
            self.assertLessEqual(given.get(name, 0), need)
        self.assertEqual(sum(given.values()), most)
        self.assertEqual(most_sum(yard, copies), most)
        return most

    def test_small_yards_against_all_papers(self):
        chance = random.Random(1)
        for yard in some_yards(2, 60):
            known = brute.limits(yard)
            for _ in range(4):
                copies = some_copies(chance)
                self.assertTrue(is_copies(copies))
                self.assertEqual(self.check_rows(yard, copies), brute.most_sum(yard, copies, known), (yard, copies))

    def test_tiny_yards_against_all_flows(self):
        for yard in some_yards(3, 40, cars=2, cables=3, knots=2, great=2):
            for times in (0, 1, 2):
                self.assertEqual(most_sum(yard, ((times, None),)), self.most_by_all(yard, times))

    def most_by_all(self, yard, times):
        best = 0
        ranges = [range(times * cable[2] + 1) for cable in yard[0]] + [range(min(times * car[2], car[3]) + 1) for car in yard[1]]
        for numbers in itertools.product(*ranges):
            flow = {cable[:2]: much for cable, much in zip(yard[0], numbers)}
            amounts = {car[0]: much for car, much in zip(yard[1], numbers[len(yard[0]):])}
            if brute.carries(yard, times, amounts, flow):
                best = max(best, sum(amounts.values()))
        return best

    def test_edges(self):
        self.assertEqual(most_flow(YARD, ()), (0, ()))
        self.assertEqual(most_sum(YARD, ()), 0)
        self.assertEqual(most_flow(EMPTY, ((3, None), (0, 0))), (0, (({}, {}), ({}, {}))))
        self.assertEqual(most_flow(YARD, ((0, None), (5, 0), (0, 7))), (0, (({}, {}),) * 3))
        self.assertEqual(most_sum(YARD, ((1, 4), (1, 0), (0, None))), 4)
        self.assertEqual([most_sum(YARD, ((1, bound),)) for bound in (0, 4, 5, 6, None)], [0, 4, 5, 5, 5])
        self.assertEqual(most_sum(YARD, ((10 ** 15, 10 ** 20), (10 ** 15, None))), 11)

    def test_cars_at_the_feeder(self):
        yard = ((), (("a", "feed", 3, 4), ("b", "k", 3, 4), ("c", "feed", 1, 9)))
        self.assertEqual(most_flow(yard, ((1, None), (2, None))), (7, most_flow(yard, ((1, None), (2, None)))[1]))
        self.assertEqual(self.check_rows(yard, ((1, None), (2, None))), 7)
        self.assertEqual(self.check_rows(yard, ((1, 2), (2, 1))), 3)

    def test_great_yards(self):
        for seed in range(3):
            yard = great_yard(seed)
            chance = random.Random(seed)
            copies = tuple((1, chance.randint(0, 10 ** 12)) for _ in range(48))
            self.check_rows(yard, copies)
            self.check_rows(yard, ((10 ** 15 - 1, None), (1, None), (0, None)))

    def test_what_is_returned_is_new(self):
        copies = ((1, 3), (1, None), (0, None), (1, 0))
        most, rows = most_flow(YARD, copies)
        parts = [part for row in rows for part in row]
        self.assertEqual(len({id(part) for part in parts}), len(parts))
        kept = copy.deepcopy(rows)
        for part in parts:
            part.clear()
        self.assertEqual(most_flow(YARD, copies), (most, kept))


class Carries(unittest.TestCase):
    def test_carries(self):
        amounts, flow = {"bus": 2, "van": 2}, {("a", "b"): 2, ("feed", "a"): 4}
        self.assertIs(carries(YARD, 1, amounts, flow), True)
        self.assertIs(carries(YARD, 7, dict(reversed(amounts.items())), dict(reversed(flow.items()))), True)
        self.assertIs(carries(YARD, 0, {}, {}), True)
        for other in ({"bus": 2, "van": 1}, {"bus": 3, "van": 2}, {"bus": 2}, {}, {"bus": 1, "van": 3}, {"bus": 1, "van": 2}):
            self.assertIs(carries(YARD, 1, other, flow), False)
        for other in ({("a", "b"): 2}, {("feed", "a"): 4}, {}, {("a", "b"): 2, ("feed", "a"): 5}, {("a", "b"): 3, ("feed", "a"): 4}):
            self.assertIs(carries(YARD, 1, amounts, other), False)

    def test_a_cable_or_a_rate_passed(self):
        line = ((("feed", "k", 3),), (("bus", "k", 9, 1), ("van", "k", 2, 1)))
        told = [carries(line, times, {"bus": 4}, {("feed", "k"): 4}) for times in (0, 1, 2)]
        self.assertEqual(told, [False, False, True])
        told = [carries(line, times, {"van": 3}, {("feed", "k"): 3}) for times in (0, 1, 2)]
        self.assertEqual(told, [False, False, True])
        at_feed = ((), (("bus", "feed", 2, 1),))
        self.assertEqual([carries(at_feed, times, {"bus": 3}, {}) for times in (0, 1, 2)], [False, False, True])

    def test_needs_are_not_asked(self):
        line = ((("feed", "k", 9),), (("bus", "k", 9, 0),))
        self.assertIs(carries(line, 1, {"bus": 9}, {("feed", "k"): 9}), True)
        self.assertEqual(carried(line, 1, {"bus": 9}), {("feed", "k"): 9})

    def test_rings(self):
        ring = ((("a", "b", 2), ("b", "a", 2), ("feed", "a", 3)), (("bus", "a", 3, 3),))
        self.assertIs(carries(ring, 1, {}, {("a", "b"): 2, ("b", "a"): 2}), True)
        self.assertIs(carries(ring, 1, {"bus": 1}, {("a", "b"): 1, ("b", "a"): 1, ("feed", "a"): 1}), True)
        self.assertIs(carries(ring, 1, {}, {("a", "b"): 2, ("b", "a"): 1}), False)
        self.assertIs(carries(ring, 1, {}, {("a", "b"): 3, ("b", "a"): 3}), False)
        self.assertIs(carries(ring, 1, {"bus": 1}, {("a", "b"): 1, ("b", "a"): 1}), False)

    def test_what_starts_nowhere(self):
        apart = ((("a", "b", 3),), (("bus", "b", 3, 3),))
        self.assertIs(carries(apart, 1, {"bus": 1}, {("a", "b"): 1}), False)
        self.assertIs(carries(apart, 1, {}, {("a", "b"): 1}), False)

    def test_against_the_definition(self):
        chance = random.Random(4)
        told = set()
        for yard in some_yards(5, 300, cars=2, cables=2, knots=2, great=2):
            flow = {cable[:2]: chance.randint(1, 2) for cable in yard[0] if chance.random() < 0.7}
            amounts = {car[0]: chance.randint(1, 2) for car in yard[1] if chance.random() < 0.7}
            for times in (0, 1, 2):
                meant = brute.carries(yard, times, amounts, flow)
                self.assertIs(carries(yard, times, amounts, flow), meant)
                told.add((meant, bool(flow)))
        self.assertEqual(len(told), 4)


class Carried(unittest.TestCase):
    def possible(self, yard, times, amounts):
        """Whether they are carried: all amounts, in a yard whose rates in one hour and needs are just these."""
        if any(amounts.get(name, 0) > times * rate for name, _, rate, _ in yard[1]):
            return False
        cables = tuple((start, end, times * cap) for start, end, cap in yard[0])
        cars = tuple((name, knot, amounts[name], 0) for name, knot, _, _ in yard[1] if name in amounts)
        return brute.limit((cables, cars), tuple(sorted(amounts))) == sum(amounts.values())

    def test_against_all_cuts(self):
        chance = random.Random(6)
        told = set()
        for yard in some_yards(7, 200, cars=3):
            for times in (0, 1, 2):
                amounts = {car[0]: chance.randint(1, 4) for car in yard[1] if chance.random() < 0.7}
                flow = carried(yard, times, amounts)
                self.assertIs(flow is not None, self.possible(yard, times, amounts))
                if flow is not None:
                    self.assertTrue(is_flow(yard, flow) and brute.carries(yard, times, amounts, flow))
                    self.assertEqual(list(flow), sorted(flow))
                    self.assertEqual(carried(yard, times, dict(reversed(amounts.items()))), flow)
                told.add((flow is None, times, bool(amounts)))
        # Nothing but {} is carried in 0 hours, and {} always is.
        self.assertEqual(len(told), 8)

    def test_edges(self):
        self.assertEqual(carried(EMPTY, 0, {}), {})
        self.assertEqual(carried(YARD, 5, {}), {})
        self.assertIsNone(carried(YARD, 0, {"bus": 1}))
        self.assertIsNone(carried(YARD, 1, {"bus": 5}))
        self.assertIsNone(carried(YARD, 1, {"bus": 4, "van": 2}))
        self.assertEqual(carried(YARD, 1, {"bus": 3, "van": 2}), {("a", "b"): 2, ("feed", "a"): 5})
        self.assertIsNone(carried(((), (("bus", "k", 1, 1),)), 9, {"bus": 1}))
        self.assertEqual(carried(((), (("bus", "feed", 1, 1),)), 9, {"bus": 9}), {})
        self.assertIsNone(carried(((("a", "b", 3),), (("bus", "b", 3, 3),)), 1, {"bus": 1}))

    def test_nothing_is_changed_and_all_is_new(self):
        amounts, flow = {"van": 2, "bus": 1}, {("feed", "a"): 3, ("a", "b"): 2}
        carries(YARD, 1, amounts, flow)
        carried(YARD, 1, amounts).clear()
        self.assertEqual(carried(YARD, 1, amounts), flow)
        self.assertEqual((list(amounts), list(flow)), (["van", "bus"], [("feed", "a"), ("a", "b")]))


if __name__ == "__main__":
    unittest.main()
