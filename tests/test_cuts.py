"""[18]: cuts."""
import unittest

from nightstairs.cuts import least_cut, limit, limit_flow, worth
from nightstairs.forms import is_amounts, is_cut, is_flow
from nightstairs.yards import with_needs
from tests import brute
from tests.brute import EMPTY, YARD, car_lots_of, cuts_of, great_yard, some_yards


class Cuts(unittest.TestCase):
    def test_worth_of_all_cuts(self):
        for yard in some_yards(1, 30):
            for lot in car_lots_of(yard):
                for cut in cuts_of(yard):
                    self.assertEqual(worth(yard, cut, lot), brute.worth(yard, cut, lot))

    def test_worth(self):
        self.assertEqual([worth(YARD, (), lot) for lot in car_lots_of(YARD)], [0, 4, 2, 6])
        self.assertEqual([worth(YARD, cut, ("bus",)) for cut in cuts_of(YARD)], [4, 5, 7, 5])
        self.assertEqual(worth(EMPTY, (), ()), 0)
        ring = ((("a", "b", 1), ("a", "c", 2), ("b", "a", 4), ("feed", "a", 8), ("feed", "b", 16)), (("x", "feed", 32, 1),))
        self.assertEqual([worth(ring, cut, ("x",)) for cut in ((), ("a",), ("b",), ("a", "b"), ("c",), ("a", "b", "c"))],
                         [32, 44, 49, 56, 34, 56])

    def test_limit_is_that_of_the_least_cut_and_is_carried(self):
        for yard in some_yards(2, 60):
            for lot in car_lots_of(yard):
                least = brute.limit(yard, lot)
                self.assertEqual(limit(yard, lot), least)
                amounts, flow = limit_flow(yard, lot)
                self.assertTrue(is_amounts(yard, amounts) and is_flow(yard, flow))
                self.assertTrue(set(amounts) <= set(lot))
                self.assertEqual((list(amounts), list(flow)), (sorted(amounts), sorted(flow)))
                self.assertEqual(sum(amounts.values()), least)
                self.assertTrue(brute.carries(yard, 1, amounts, flow))

    def test_the_least_cut_lies_in_each_other_one(self):
        others = 0
        for yard in some_yards(3, 60):
            for lot in car_lots_of(yard):
                cut, least = least_cut(yard, lot), brute.limit(yard, lot)
                self.assertTrue(is_cut(yard, cut))
                self.assertEqual(brute.worth(yard, cut, lot), least)
                for other in cuts_of(yard):
                    if brute.worth(yard, other, lot) == least:
                        self.assertTrue(set(cut) <= set(other), (yard, lot, cut, other))
                        others += other != cut
        self.assertGreater(others, 100)

    def test_edges(self):
        self.assertEqual([limit(EMPTY, ()), least_cut(EMPTY, ()), limit_flow(EMPTY, ())], [0, (), ({}, {})])
        self.assertEqual([limit(YARD, ()), least_cut(YARD, ()), limit_flow(YARD, ())], [0, (), ({}, {})])
        apart = ((), (("bus", "feed", 3, 1), ("van", "k", 3, 1)))
        self.assertEqual([limit(apart, ("van",)), least_cut(apart, ("van",)), limit_flow(apart, ("van",))], [0, ("k",), ({}, {})])
        self.assertEqual([limit(apart, ("bus",)), least_cut(apart, ("bus",)), limit_flow(apart, ("bus",))], [3, (), ({"bus": 3}, {})])
        self.assertEqual([limit(apart, ("bus", "van")), least_cut(apart, ("bus", "van"))], [3, ("k",)])

    def test_equal_cuts_one_within_the_other(self):
        line = ((("a", "b", 2), ("b", "c", 2), ("feed", "a", 2)), (("bus", "c", 2, 9),))
        self.assertEqual(least_cut(line, ("bus",)), ())
        line = (line[0], (("bus", "c", 3, 9),))
        self.assertEqual(least_cut(line, ("bus",)), ("c",))

    def test_needs_are_not_looked_at(self):
        for yard in some_yards(4, 20):
            for need in (0, 1, 10 ** 12):
                other = with_needs(yard, {car[0]: need for car in yard[1]})
                for lot in car_lots_of(yard):
                    for call in (limit, least_cut, limit_flow):
                        self.assertEqual(call(yard, lot), call(other, lot))
                    self.assertEqual(worth(yard, (), lot), worth(other, (), lot))

    def test_great_yards(self):
        for seed in range(5):
            yard = great_yard(seed)
            lot = tuple(car[0] for car in yard[1])[::2]
            amounts, flow = limit_flow(yard, lot)
            self.assertEqual(brute.worth(yard, least_cut(yard, lot), lot), sum(amounts.values()))
            self.assertEqual(limit(yard, lot), sum(amounts.values()))
            self.assertTrue(brute.carries(yard, 1, amounts, flow))

    def test_what_is_returned_is_new(self):
        amounts, flow = limit_flow(YARD, ("van",))
        amounts.clear()
        flow.clear()
        self.assertEqual(limit_flow(YARD, ("van",)), ({"van": 2}, {("a", "b"): 2, ("feed", "a"): 2}))


if __name__ == "__main__":
    unittest.main()
