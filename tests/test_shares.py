"""[32]: what a car gets by right orders."""
import unittest

from nightstairs.keeping import is_right
from nightstairs.orders import order_by
from nightstairs.shares import greatest_share, least_share, shares
from nightstairs.stairs import stairs
from nightstairs.yards import cars_of
from tests import brute
from tests.brute import EMPTY, YARD, full_yard, great_yard, roomy_yards, some_yards

SUPPLIES = (0, 1, 3, 4, 7, 99)


class Shares(unittest.TestCase):
    def test_all_right_orders_of_small_yards(self):
        wide = 0
        yards = some_yards(1, 30, cars=3, knots=3, great=4) + some_yards(2, 20, cars=4, cables=7, knots=3, great=2)
        for yard in yards + roomy_yards(3, 25):
            known = brute.limits(yard)
            rows = brute.order_rows(yard, known)
            for supply in SUPPLIES:
                right = brute.right_orders(yard, supply, known, rows)
                told = shares(yard, supply)
                self.assertEqual(list(told), [car[0] for car in yard[1]])
                for at, car in enumerate(yard[1]):
                    had = sorted({row[at] for row in right})
                    self.assertEqual(told[car[0]], (had[0], had[-1]))
                    # All integers between are had.
                    self.assertEqual(had, list(range(had[0], had[-1] + 1)))
                    self.assertEqual(least_share(yard, supply, car[0]), had[0])
                    self.assertEqual(greatest_share(yard, supply, car[0]), had[-1])
                    wide += len(had) > 2
        self.assertGreater(wide, 20)

    def test_edges(self):
        self.assertEqual([shares(EMPTY, 3), shares(YARD, 0), shares(YARD, 5), shares(YARD, 99)],
                         [{}, {"bus": (0, 0), "van": (0, 0)}, {"bus": (3, 3), "van": (2, 2)}, {"bus": (3, 3), "van": (2, 2)}])
        apart = ((), (("bus", "far", 2, 5), ("cart", "feed", 2, 5), ("van", "feed", 2, 0)))
        self.assertEqual(shares(apart, 1), {"bus": (0, 0), "cart": (1, 1), "van": (0, 0)})
        plain = ((), (("a", "feed", 3, 3), ("b", "feed", 3, 3)))
        self.assertEqual([shares(plain, 4), shares(plain, 2)], [{"a": (1, 3), "b": (1, 3)}, {"a": (0, 2), "b": (0, 2)}])
        self.assertEqual([least_share(plain, 4, "b"), greatest_share(plain, 4, "b")], [1, 3])

    def test_new_each_time(self):
        shares(YARD, 3).clear()
        self.assertEqual(shares(YARD, 3), {"bus": (1, 2), "van": (1, 2)})

    def test_great_yards(self):
        for yard in (full_yard(0), great_yard(6)):
            supply = stairs(yard)[0][0] * 2 // 3
            told = shares(yard, supply)
            self.assertTrue(all(low <= high for low, high in told.values()))
            names = cars_of(yard)
            for name in names[:4]:
                most = order_by(yard, supply, (name,) + tuple(other for other in names if other != name))
                self.assertIs(is_right(yard, supply, most), True)
                self.assertEqual(most.get(name, 0), told[name][1])
                self.assertEqual((least_share(yard, supply, name), greatest_share(yard, supply, name)), told[name])


if __name__ == "__main__":
    unittest.main()
