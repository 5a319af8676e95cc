"""[13]: yards."""
import copy
import unittest

from nightstairs import yards
from nightstairs.forms import is_amounts, is_yard
from tests.brute import EMPTY, YARD, knots_of, some_yards

CABLES, CARS = YARD


class Yards(unittest.TestCase):
    def test_knots_and_names(self):
        self.assertEqual(yards.knots_of(EMPTY), ("feed",))
        self.assertEqual(yards.cars_of(EMPTY), ())
        self.assertEqual(yards.knots_of(((), (("a", "zoo", 1, 0), ("b", "feed", 1, 0)))), ("feed", "zoo"))
        self.assertEqual(yards.knots_of(((("x", "y", 0),), ())), ("feed", "x", "y"))
        for yard in some_yards(1, 30):
            self.assertEqual(yards.knots_of(yard), tuple(knots_of(yard)))
            self.assertEqual(yards.cars_of(yard), tuple(car[0] for car in yard[1]))

    def test_cars_and_caps(self):
        self.assertEqual(yards.car_of(YARD, "bus"), ("bus", "a", 4, 6))
        self.assertIsNone(yards.car_of(YARD, "a"))
        self.assertIsNone(yards.car_of(EMPTY, "bus"))
        self.assertEqual(yards.cap_of(YARD, "feed", "a"), 5)
        self.assertIsNone(yards.cap_of(YARD, "a", "feed"))
        self.assertIsNone(yards.cap_of(YARD, "feed", "b"))
        self.assertIsNone(yards.cap_of(EMPTY, "feed", "b"))
        self.assertEqual(yards.cap_of(((("a", "b", 0),), ()), "a", "b"), 0)

    def test_needs(self):
        self.assertEqual(yards.needs_of(EMPTY), {})
        self.assertEqual(list(yards.needs_of(YARD).items()), [("bus", 6), ("van", 5)])
        sums = [yards.need_of(YARD, lot) for lot in ((), ("bus",), ("van",), ("bus", "van"))]
        self.assertEqual(sums, [0, 6, 5, 11])

    def test_sum_of(self):
        self.assertEqual([yards.sum_of({}), yards.sum_of({"a": 10 ** 12, "b": 1})], [0, 10 ** 12 + 1])

    def test_with_needs(self):
        self.assertEqual(yards.with_needs(YARD, {}), YARD)
        self.assertEqual(yards.with_needs(YARD, {"van": 0}), (CABLES, (CARS[0], ("van", "b", 2, 0))))
        both = yards.with_needs(YARD, {"van": 10 ** 14, "bus": 1})
        self.assertEqual(both, (CABLES, (("bus", "a", 4, 1), ("van", "b", 2, 10 ** 14))))
        self.assertTrue(is_yard(both))

    def test_fits(self):
        told = [yards.fits(YARD, amounts) for amounts in ({}, {"bus": 6, "van": 5}, {"bus": 7}, {"van": 5, "bus": 7}, {"van": 4})]
        self.assertEqual(told, [True, True, False, False, True])
        self.assertIs(yards.fits(YARD, {"van": 5}), True)
        self.assertIs(yards.fits(YARD, {"van": 6}), False)
        self.assertIs(yards.fits(EMPTY, {}), True)

    def test_charged(self):
        self.assertEqual(yards.charged(YARD, {}), YARD)
        self.assertEqual(yards.charged(YARD, {"van": 5, "bus": 6})[1], (("bus", "a", 4, 0), ("van", "b", 2, 0)))
        self.assertEqual(yards.charged(YARD, {"van": 2}), (CABLES, (CARS[0], ("van", "b", 2, 3))))

    def test_amounts_between_charged_yards(self):
        for yard in some_yards(2, 40):
            amounts = {car[0]: car[3] // 2 for car in yard[1] if car[3] > 1}
            between = yards.amounts_between(yard, yards.charged(yard, amounts))
            self.assertEqual(between, amounts)
            self.assertEqual(list(between), sorted(between))
            self.assertTrue(is_amounts(yard, between))
            if amounts:
                self.assertIsNone(yards.amounts_between(yards.charged(yard, amounts), yard))

    def test_amounts_between_others(self):
        self.assertEqual(yards.amounts_between(YARD, YARD), {})
        self.assertEqual(yards.amounts_between(EMPTY, EMPTY), {})
        for other in (
            EMPTY, (CABLES, CARS[:1]), (CABLES, CARS[1:]), (CABLES[:1], CARS), ((("a", "b", 4), CABLES[1]), CARS),
            (CABLES + (("x", "y", 0),), CARS), (CABLES, (("bus", "b", 4, 6), CARS[1])), (CABLES, (("bus", "a", 5, 6), CARS[1])),
            (CABLES, (("bus", "a", 4, 7), CARS[1])), (CABLES, (("bus", "a", 4, 7), ("van", "b", 2, 4))),
            (CABLES, (("bux", "a", 4, 6), CARS[1])), (CABLES, CARS + (("zug", "a", 1, 0),)),
        ):
            self.assertTrue(is_yard(other))
            self.assertIsNone(yards.amounts_between(YARD, other))
            self.assertIsNone(yards.amounts_between(other, (other[0], other[1] + (("zzz", "a", 1, 0),))))

    def test_joined_amounts(self):
        self.assertEqual(yards.joined_amounts([]), {})
        self.assertEqual(yards.joined_amounts(({}, {})), {})
        rows = ({"z": 1, "b": 2}, {}, {"a": 3, "z": 10 ** 13})
        for told in (rows, list(rows)):
            joined = yards.joined_amounts(told)
            self.assertEqual(list(joined.items()), [("a", 3), ("b", 2), ("z", 10 ** 13 + 1)])

    def test_what_is_returned_is_new_and_nothing_is_changed(self):
        rows = [{"van": 1}, {"bus": 2}]
        needs, kept = {"van": 1, "bus": 0}, copy.deepcopy(rows)
        joined = yards.joined_amounts(rows)
        joined["van"] = 99
        alone = yards.joined_amounts(rows[:1])
        alone["bus"] = 1
        self.assertEqual(rows, kept)
        self.assertEqual(yards.joined_amounts(rows), {"bus": 2, "van": 1})
        yards.with_needs(YARD, needs)
        yards.charged(YARD, {"van": 1})
        yards.fits(YARD, needs)
        self.assertEqual(list(needs.items()), [("van", 1), ("bus", 0)])
        told = yards.needs_of(YARD)
        told["bus"] = 0
        self.assertEqual(yards.needs_of(YARD), {"bus": 6, "van": 5})
        between = yards.amounts_between(YARD, YARD)
        between["bus"] = 3
        self.assertEqual(yards.amounts_between(YARD, YARD), {})


if __name__ == "__main__":
    unittest.main()
